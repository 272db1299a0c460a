/-
  The walk of the law DiskMoves over any disk that keeps its contracts.
-/
import Derived.Test.YtamfhndcekcloaaDiskShown
import Derived.Test.YtamfhndcekcloaaDiskLTwice
namespace Go.Proofs.Ytamfhndcekcloaa.D
open Go.RowKit
attribute [local go_sem] ext_Bd ext_Bl ext_Bt toList_B add_B size_B get_Bt

theorem name_own : nameL [111, 119, 110] = true := by kernel_rfl
theorem name_oth : nameL [111, 116, 104, 101, 114] = true := by kernel_rfl
theorem own_first {room : Nat} {s : Tx} {l : List F} (hf : find [111, 119, 110] l = none) (hl : ¬ 40 ≤ l.length) (hu : used l + s.length ≤ room) : D.append room [111, 119, 110] s l = (0, put ⟨[111, 119, 110], s, 0⟩ l) := by
  unfold D.append
  rw [if_neg (by rw [name_own]; decide), if_neg fun h => hl h.2, if_neg (by omega), hf]
theorem own_many {room : Nat} {s : Tx} {l : List F} (hf : find [111, 119, 110] l = none) (hl : 40 ≤ l.length) : D.append room [111, 119, 110] s l = (4, l) := by
  unfold D.append
  rw [if_neg (by rw [name_own]; decide), if_pos ⟨hf, hl⟩]
theorem own_sync {s : Tx} {l : List F} : D.sync [111, 119, 110] (put ⟨[111, 119, 110], s, 0⟩ l) = (0, put ⟨[111, 119, 110], s, s.length⟩ l) := by
  unfold D.sync
  rw [find_put (f := ⟨[111, 119, 110], s, 0⟩) l]
  dsimp only
  rw [put_put (f := ⟨[111, 119, 110], s, s.length⟩) (g := ⟨[111, 119, 110], s, 0⟩) rfl]
theorem own_second {room : Nat} {s t : Tx} {l : List F} (hs : Sorted l) (hf : find [111, 119, 110] l = none) (hu : used l + s.length + t.length ≤ room) : D.append room [111, 119, 110] t (put ⟨[111, 119, 110], s, s.length⟩ l) = (0, put ⟨[111, 119, 110], s ++ t, s.length⟩ l) := by
  have hfp := find_put (f := ⟨[111, 119, 110], s, s.length⟩) l
  have hup := used_put (f := ⟨[111, 119, 110], s, s.length⟩) hs
  dsimp only at hfp hup
  rw [hf] at hup
  simp only [lenAt] at hup
  unfold D.append
  rw [if_neg (by rw [name_own]; decide), if_neg (fun h => by rw [hfp] at h; cases h.1), if_neg (by omega), hfp]
  dsimp only
  rw [put_put (f := ⟨[111, 119, 110], s ++ t, s.length⟩) (g := ⟨[111, 119, 110], s, s.length⟩) rfl]
theorem own_used {n u : Tx} {z : Nat} {l : List F} (hs : Sorted l) (hf : find n l = none) : used (put ⟨n, u, z⟩ l) = used l + u.length := by
  have hup := used_put (f := ⟨n, u, z⟩) hs
  dsimp only at hup
  rw [hf] at hup
  simp only [lenAt] at hup
  omega
theorem own_len {n u : Tx} {z : Nat} {l : List F} (hs : Sorted l) (hf : find n l = none) : (put ⟨n, u, z⟩ l).length = l.length + 1 := by
  have := length_put (f := ⟨n, u, z⟩) hs
  dsimp only at this
  rw [hf] at this
  simpa using this
theorem move_own {u : Tx} {z : Nat} {l : List F} (hf : find [111, 119, 110] l = none) : D.rename [111, 119, 110] [111, 116, 104, 101, 114] (put ⟨[111, 119, 110], u, z⟩ l) = (0, put ⟨[111, 116, 104, 101, 114], u, z⟩ l) := by
  unfold D.rename
  rw [find_put (f := ⟨[111, 119, 110], u, z⟩) l]
  dsimp only
  rw [if_neg (by rw [name_oth]; decide), del_put (f := ⟨[111, 119, 110], u, z⟩) hf]
theorem find_oth {u : Tx} {z : Nat} {l : List F} (hf : find [111, 119, 110] l = none) : find [111, 119, 110] (put ⟨[111, 116, 104, 101, 114], u, z⟩ l) = none := by
  rw [find_put_ne (f := ⟨[111, 116, 104, 101, 114], u, z⟩) (by simp), hf]
theorem move_none {b : Tx} {l : List F} (hf : find [111, 119, 110] l = none) : D.rename [111, 119, 110] b l = (6, l) := by
  unfold D.rename
  rw [hf]
theorem put_again {f : F} {l : List F} (hs : Sorted l) (hf : find f.name l = some f) : put f (del f.name l) = l := by
  rw [put_del hs]
  refine ext (sorted_put hs) hs fun n => ?_
  by_cases h : f.name = n
  · subst h
    rw [find_put, hf]
  · rw [find_put_ne h]
theorem move_same {u : Tx} {z : Nat} {l : List F} (hs : Sorted l) : D.rename [111, 116, 104, 101, 114] [111, 116, 104, 101, 114] (put ⟨[111, 116, 104, 101, 114], u, z⟩ l) = (0, put ⟨[111, 116, 104, 101, 114], u, z⟩ l) := by
  have hf := find_put (f := ⟨[111, 116, 104, 101, 114], u, z⟩) l
  unfold D.rename
  dsimp only at hf
  rw [hf]
  dsimp only
  rw [if_neg (by rw [name_oth]; decide)]
  have := put_again (f := ⟨[111, 116, 104, 101, 114], u, z⟩) (sorted_put (f := ⟨[111, 116, 104, 101, 114], u, z⟩) hs) hf
  dsimp only at this
  rw [this]
theorem inv_put {room : Nat} {n u : Tx} {z : Nat} {l : List F} (h : Inv room l) (hz : z ≤ u.length) (hf : find n l = none) (hl : ¬ 40 ≤ l.length) (hu : used l + u.length ≤ room) : Inv room (put ⟨n, u, z⟩ l) :=
  ⟨sorted_put h.sorted, fun f hm => by
    rcases mem_put hm with rfl | hm
    · exact hz
    · exact h.syn f hm, by rw [own_len h.sorted hf]; omega, by rw [own_used h.sorted hf]; omega⟩
theorem delete_is (n : Tx) (l : List F) : D.delete n l = ((D.delete n l).1, del n l) := by rw [← delete_snd n l]
set_option maxHeartbeats 8000000 in
set_option maxRecDepth 100000 in
theorem moves_walk (C : DC) (acts : List Ac) (va : Value) (s t : Tx) (w : World) (hA : ReadsA w va acts) (hsm : s.length ≤ 9223372036854775807) (htm : t.length ≤ 9223372036854775807) :
    Calls Try.prog 6 #[va, .string (B s), .string (B t)] w fun x w' => x = .returned (.bool true) ∧ Below w.heap.size w w' := by
  obtain ⟨aa, ca, hva, hxa⟩ := hA
  subst hva
  have HXA := Lib.hid hxa
  clear hxa
  go_enter Try.func6, Try.ntmps6
  go_wp2_with fail
  refine (shown8_l C w).mono ?_
  rintro x w1 ⟨rfl, hb1⟩
  have HB1 := Lib.hid hb1
  clear hb1
  go_wp2_with fail
  refine (small8_l acts _ w1 ⟨aa, ca, rfl, fun i h => by
    have := readsA_below ⟨aa, ca, rfl, HXA.out⟩ HB1.out
    obtain ⟨_, _, hv, hx⟩ := this
    cases hv
    exact hx i h⟩).mono ?_
  rintro x w1' ⟨hok, rfl⟩
  have HOK : Hid (x = .returned (.bool true) → SmallA acts) := Lib.hid fun h => by
    rcases hok with h1 | ⟨-, h2⟩
    · rw [h] at h1; cases h1
    · exact h2
  obtain ⟨ok, rfl⟩ : ∃ ok, x = .returned (.bool ok) := by rcases hok with h | ⟨h, -⟩ <;> exact ⟨_, h⟩
  clear hok
  go_wp2_with fail
  refine (C.new_ok (bs := w.heap.size) (w := w1') 100000 HB1.out.size (by omega) (by omega)).mono ?_
  rintro x w2 ⟨⟨p, S0, rfl, hd2, -⟩, hb2⟩
  have HB2 := Lib.hid (HB1.out.trans (hb2.mono HB1.out.size))
  have HST0 : Hid (Stand C w p 100000 0 w2 [] S0) := Lib.hid ⟨hd2, inv_nil _, (fun f hf => by cases hf), Nat.zero_le _, HB2.out⟩
  clear hd2 hb2 HB1
  cases ok
  · go_wp2
    go_ret
    exact ⟨rfl, HB2.out⟩
  have HSM := Lib.hid (HOK.out rfl)
  have h80 : acts.length ≤ 80 := HSM.out.1
  clear HOK
  by_cases h1 : 500 < s.length
  · have h1i : (500 : Int) < (s.length : Int) := by omega
    go_wp2
    go_ret
    exact ⟨rfl, HB2.out⟩
  have h1i : ¬ (500 : Int) < (s.length : Int) := by omega
  by_cases h2 : 500 < t.length
  · have h2i : (500 : Int) < (t.length : Int) := by omega
    go_wp2
    go_ret
    exact ⟨rfl, HB2.out⟩
  have h2i : ¬ (500 : Int) < (t.length : Int) := by omega
  go_wp2
  go_loopw [11] (fun i wr => ∃ (j : Nat) (l : List F) (S : Nat → Prop), i = .int .i64 j ∧ j ≤ acts.length ∧ Stand C w p 100000 j wr l S) (fun i _ => acts.length - (intOf i).toNat)
  case atStart => exact ⟨0, [], S0, rfl, Nat.zero_le _, HST0.out⟩
  case round =>
    obtain ⟨j, l, S, rfl, hj, hst⟩ := hrel
    have HST := Lib.hid hst
    clear hst HST0
    by_cases hlt : j < acts.length
    · have hj1 : (j : Int) < (acts.length : Int) := by omega
      obtain ⟨⟨hkr, hop, -, -⟩, b, off, hab, g0, g1, g2, g3⟩ := HXA.out j hlt
      subst hab
      have hsm := HSM.out.2 j hlt
      have z0 := keeps HST.out.bel _ _ g0
      have z1 := keeps HST.out.bel _ _ g1
      have z2 := keeps HST.out.bel _ _ g2
      have z3 := keeps HST.out.bel _ _ g3
      have HKR := Lib.hid hkr
      have HOP := Lib.hid hop
      clear g0 g1 g2 g3 hkr hop
      generalize acts[j] = ac at z0 z1 z2 z3 HKR HOP hsm
      obtain ⟨s1, s2, s3⟩ := hsm
      have HDO := Lib.hid (does_l C p 100000 l ac (act 100000 (pickN ac.op 8) ac.name ac.more ac.keep l).1 (act 100000 (pickN ac.op 8) ac.name ac.more ac.keep l).2 S wr HST.out.at_ HST.out.inv (by omega) HOP.out s1 s2 s3 (fun w' hb => readsI_below HKR.out (But.low HST.out.bel hb HST.out.lo)) (Lib.hid rfl))
      obtain ⟨⟨ka, kc, hv, -⟩, -⟩ : (∃ a cap, ac.v = .slice a ac.keep.length cap ∧ True) ∧ True := by
        obtain ⟨a, cap, hv, _⟩ := HKR.out
        exact ⟨⟨a, cap, hv, trivial⟩, trivial⟩
      rw [hv] at z3 HDO
      go_wp2_with fail
      refine HDO.out.mono ?_
      rintro x w2 ⟨rfl, ⟨S2, hd2, hg2⟩, hb2⟩
      have HST2 : Hid (Stand C w p 100000 (j + 1) w2 (act 100000 (pickN ac.op 8) ac.name ac.more ac.keep l).2 S2) := Lib.hid ⟨hd2, HST.out.inv.act, HST.out.nam.act (by omega) (by omega), by have := used_act (op := pickN ac.op 8) (n := ac.name) (m := ac.more) (ks := ac.keep) HST.out.inv; have := HST.out.use; omega, But.low HST.out.bel hb2 HST.out.lo⟩
      clear hd2 hg2 hb2 HDO z0 z1 z2 z3
      go_wp2
      go_roundw
      case rel => exact ⟨j + 1, _, S2, by go_num, by omega, HST2.out⟩
      case measure => simp [intOf]; omega
    · have hj1 : ¬ (j : Int) < (acts.length : Int) := by omega
      obtain ⟨at9, inv, nam, use, bel⟩ := HST.out
      have HD2 := Lib.hid at9
      have HBx := Lib.hid bel
      have HL2 := Lib.hid HST.out.lo
      have HI2 := Lib.hid inv
      clear HB2
      have HB2 := HBx
      have hus : used l ≤ 40000 := by omega
      clear at9 inv nam use bel HST HBx
      go_wp2_with fail
      refine (C.delete [111, 119, 110] _ _ HD2.out HI2.out (by omega) (by simp) (delete_is [111, 119, 110] l)).mono ?_
      rintro x w3 ⟨rfl, ⟨S3, hd3, hg3⟩, hb3⟩
      have HD3 := Lib.hid hd3
      have HB3 := Lib.hid (But.low HB2.out hb3 HL2.out)
      have HL3 : Hid (∀ k, S3 k → w.heap.size ≤ k) := Lib.hid fun k hk => (C.low HD3.out hk).1
      clear hd3 hb3 hg3 HD2 HB2 HL2
      have HI3 := Lib.hid (HI2.out.del (n := [111, 119, 110]))
      have HF3 := Lib.hid (find_del [111, 119, 110] l)
      have hu3 : used (del [111, 119, 110] l) ≤ 40000 := by have := used_del (n := [111, 119, 110]) HI2.out.sorted; omega
      obtain ⟨l3, HL3e⟩ : ∃ l3, Hid (del [111, 119, 110] l = l3) := ⟨_, Lib.hid rfl⟩
      rw [HL3e.out] at HD3 HI3 HF3 hu3
      clear HL3e HI2
      go_wp2_with fail
      refine (C.delete [111, 116, 104, 101, 114] _ _ HD3.out HI3.out (by omega) (by simp) (delete_is [111, 116, 104, 101, 114] l3)).mono ?_
      rintro x w4 ⟨rfl, ⟨S4, hd4, hg4⟩, hb4⟩
      have HD4 := Lib.hid hd4
      have HB4 := Lib.hid (But.low HB3.out hb4 HL3.out)
      have HL4 : Hid (∀ k, S4 k → w.heap.size ≤ k) := Lib.hid fun k hk => (C.low HD4.out hk).1
      clear hd4 hb4 hg4 HD3 HB3 HL3
      have HI4 := Lib.hid (HI3.out.del (n := [111, 116, 104, 101, 114]))
      have HF4 : Hid (find [111, 119, 110] (del [111, 116, 104, 101, 114] l3) = none) := Lib.hid (by rw [find_del_ne (by simp)]; exact HF3.out)
      have HF4b := Lib.hid (find_del [111, 116, 104, 101, 114] l3)
      have hu4 : used (del [111, 116, 104, 101, 114] l3) ≤ 40000 := by have := used_del (n := [111, 116, 104, 101, 114]) HI3.out.sorted; omega
      obtain ⟨l4, HL4e⟩ : ∃ l4, Hid (del [111, 116, 104, 101, 114] l3 = l4) := ⟨_, Lib.hid rfl⟩
      rw [HL4e.out] at HD4 HI4 HF4 HF4b hu4
      clear HL4e HI3 HF3
      by_cases h40 : 40 ≤ l4.length
      · go_wp2_with fail
        refine (C.append [111, 119, 110] s 4 _ HD4.out HI4.out (by omega) (by simp) (by omega) (own_many HF4.out h40)).mono ?_
        rintro x w5 ⟨rfl, ⟨S5, hd5, hg5⟩, hb5⟩
        have HD5 := Lib.hid hd5
        have HB5 := Lib.hid (But.low HB4.out hb5 HL4.out)
        have HL5 : Hid (∀ k, S5 k → w.heap.size ≤ k) := Lib.hid fun k hk => (C.low HD5.out hk).1
        clear hd5 hb5 hg5 HD4 HB4 HL4
        go_wp2_with fail
        refine (C.list HD5.out HI4.out (by omega)).mono ?_
        rintro x w6 ⟨⟨vn, rfl, hn6⟩, hb6⟩
        have HD6 := Lib.hid (C.below HD5.out hb6)
        have HB6 := Lib.hid (HB5.out.trans (hb6.mono HB5.out.size))
        have HL6 := HL5
        clear hb6 HD5 HB5 HL5
        obtain ⟨na, nc, hvn, -⟩ := hn6
        rw [strCells_len, List.length_map] at hvn
        subst hvn
        have h40i : (40 : Int) ≤ (l4.length : Int) := by omega
        go_wp2
        go_ret
        exact ⟨rfl, HB6.out⟩
      have HI5 := Lib.hid (inv_put (n := [111, 119, 110]) (u := s) (z := 0) HI4.out (by omega) HF4.out h40 (by omega))
      have HI6 := Lib.hid (inv_put (n := [111, 119, 110]) (u := s) (z := s.length) HI4.out (by omega) HF4.out h40 (by omega))
      have HI7 := Lib.hid (inv_put (n := [111, 119, 110]) (u := s ++ t) (z := s.length) HI4.out (by simp) HF4.out h40 (by rw [List.length_append]; omega))
      have HI8 := Lib.hid (inv_put (n := [111, 116, 104, 101, 114]) (u := s ++ t) (z := s.length) HI4.out (by simp) HF4b.out h40 (by rw [List.length_append]; omega))
      go_wp2_with fail
      refine (C.append [111, 119, 110] s 0 _ HD4.out HI4.out (by omega) (by simp) (by omega) (own_first HF4.out h40 (by omega))).mono ?_
      rintro x w5 ⟨rfl, ⟨S5, hd5, hg5⟩, hb5⟩
      have HD5 := Lib.hid hd5
      have HB5 := Lib.hid (But.low HB4.out hb5 HL4.out)
      have HL5 : Hid (∀ k, S5 k → w.heap.size ≤ k) := Lib.hid fun k hk => (C.low HD5.out hk).1
      clear hd5 hb5 hg5 HD4 HB4 HL4
      go_wp2_with fail
      refine (C.sync [111, 119, 110] 0 _ HD5.out HI5.out (by omega) (by simp) own_sync).mono ?_
      rintro x w6 ⟨rfl, ⟨S6, hd6, hg6⟩, hb6⟩
      have HD6 := Lib.hid hd6
      have HB6 := Lib.hid (But.low HB5.out hb6 HL5.out)
      have HL6 : Hid (∀ k, S6 k → w.heap.size ≤ k) := Lib.hid fun k hk => (C.low HD6.out hk).1
      clear hd6 hb6 hg6 HD5 HB5 HL5
      go_wp2_with fail
      refine (C.append [111, 119, 110] t 0 _ HD6.out HI6.out (by omega) (by simp) (by omega) (own_second HI4.out.sorted HF4.out (by omega))).mono ?_
      rintro x w7 ⟨rfl, ⟨S7, hd7, hg7⟩, hb7⟩
      have HD7 := Lib.hid hd7
      have HB7 := Lib.hid (But.low HB6.out hb7 HL6.out)
      have HL7 : Hid (∀ k, S7 k → w.heap.size ≤ k) := Lib.hid fun k hk => (C.low HD7.out hk).1
      clear hd7 hb7 hg7 HD6 HB6 HL6
      have E7 := Lib.hid (own_len (n := [111, 119, 110]) (u := s ++ t) (z := s.length) HI4.out.sorted HF4.out)
      have U7 := Lib.hid (own_used (n := [111, 119, 110]) (u := s ++ t) (z := s.length) HI4.out.sorted HF4.out)
      have E8 := Lib.hid (own_len (n := [111, 116, 104, 101, 114]) (u := s ++ t) (z := s.length) HI4.out.sorted HF4b.out)
      have U8 := Lib.hid (own_used (n := [111, 116, 104, 101, 114]) (u := s ++ t) (z := s.length) HI4.out.sorted HF4b.out)
      go_wp2_with fail
      refine (C.list HD7.out HI7.out (by omega)).mono ?_
      rintro x w8 ⟨⟨vn, rfl, hn8⟩, hb8⟩
      have HD8 := Lib.hid (C.below HD7.out hb8)
      have HB8 := Lib.hid (HB7.out.trans (hb8.mono HB7.out.size))
      have HL8 := HL7
      clear hb8 HD7 HB7 HL7
      obtain ⟨na, nc, hvn, -⟩ := hn8
      rw [strCells_len, List.length_map, E7.out] at hvn
      subst hvn
      go_wp2_with fail
      refine (C.used HD8.out HI7.out (by omega)).mono ?_
      rintro x w9 ⟨rfl, hb9⟩
      have HD9 := Lib.hid (C.below HD8.out hb9)
      have HB9 := Lib.hid (HB8.out.trans (hb9.mono HB8.out.size))
      have HL9 := HL8
      clear hb9 HD8 HB8 HL8
      rw [U7.out]
      go_wp2_with fail
      refine (C.rename [111, 119, 110] [111, 116, 104, 101, 114] 0 _ HD9.out HI7.out (by omega) (by simp) (by simp) (move_own HF4.out)).mono ?_
      rintro x w10 ⟨rfl, ⟨S10, hd10, hg10⟩, hb10⟩
      have HD10 := Lib.hid hd10
      have HB10 := Lib.hid (But.low HB9.out hb10 HL9.out)
      have HL10 : Hid (∀ k, S10 k → w.heap.size ≤ k) := Lib.hid fun k hk => (C.low HD10.out hk).1
      clear hd10 hb10 hg10 HD9 HB9 HL9
      have HFO := Lib.hid (find_oth (u := s ++ t) (z := s.length) HF4.out)
      have HFP := Lib.hid (find_put (f := ⟨[111, 116, 104, 101, 114], s ++ t, s.length⟩) l4)
      have R1 : Hid (D.read [111, 119, 110] (put ⟨[111, 116, 104, 101, 114], s ++ t, s.length⟩ l4) = ([], 6)) := Lib.hid (by unfold D.read; rw [HFO.out])
      have R2 : Hid (D.read [111, 116, 104, 101, 114] (put ⟨[111, 116, 104, 101, 114], s ++ t, s.length⟩ l4) = (s ++ t, 0)) := Lib.hid (by have := HFP.out; dsimp only at this; unfold D.read; rw [this])
      have Y1 : Hid (D.synced [111, 116, 104, 101, 114] (put ⟨[111, 116, 104, 101, 114], s ++ t, s.length⟩ l4) = s.length) := Lib.hid (by have := HFP.out; dsimp only at this; unfold D.synced; rw [this])
      have M1 : Hid (D.rename [111, 119, 110] [116, 104, 105, 114, 100] (put ⟨[111, 116, 104, 101, 114], s ++ t, s.length⟩ l4) = (6, _)) := Lib.hid (move_none HFO.out)
      have M2 := Lib.hid (move_same (u := s ++ t) (z := s.length) HI4.out.sorted)
      obtain ⟨l8, HL8⟩ : ∃ l8, Hid (put ⟨[111, 116, 104, 101, 114], s ++ t, s.length⟩ l4 = l8) := ⟨_, Lib.hid rfl⟩
      rw [HL8.out] at HD10 HI8 E8 U8 R1 R2 Y1 M1 M2
      clear HL8 HFO HFP
      go_wp2_with fail
      refine (C.read [111, 119, 110] [] 6 HD10.out HI8.out (by omega) (by simp) R1.out).mono ?_
      rintro x w11 ⟨rfl, hb11⟩
      have HD11 := Lib.hid (C.below HD10.out hb11)
      have HB11 := Lib.hid (HB10.out.trans (hb11.mono HB10.out.size))
      have HL11 := HL10
      clear hb11 HD10 HB10 HL10
      go_wp2_with fail
      refine (C.read [111, 116, 104, 101, 114] (s ++ t) 0 HD11.out HI8.out (by omega) (by simp) R2.out).mono ?_
      rintro x w12 ⟨rfl, hb12⟩
      have HD12 := Lib.hid (C.below HD11.out hb12)
      have HB12 := Lib.hid (HB11.out.trans (hb12.mono HB11.out.size))
      have HL12 := HL11
      clear hb12 HD11 HB11 HL11
      go_wp2_with fail
      refine (C.synced [111, 116, 104, 101, 114] s.length HD12.out HI8.out (by omega) (by simp) Y1.out).mono ?_
      rintro x w13 ⟨rfl, hb13⟩
      have HD13 := Lib.hid (C.below HD12.out hb13)
      have HB13 := Lib.hid (HB12.out.trans (hb13.mono HB12.out.size))
      have HL13 := HL12
      clear hb13 HD12 HB12 HL12
      go_wp2_with fail
      refine (C.used HD13.out HI8.out (by omega)).mono ?_
      rintro x w14 ⟨rfl, hb14⟩
      have HD14 := Lib.hid (C.below HD13.out hb14)
      have HB14 := Lib.hid (HB13.out.trans (hb14.mono HB13.out.size))
      have HL14 := HL13
      clear hb14 HD13 HB13 HL13
      rw [U8.out]
      go_wp2_with fail
      refine (C.list HD14.out HI8.out (by omega)).mono ?_
      rintro x w15 ⟨⟨vn2, rfl, hn15⟩, hb15⟩
      have HD15 := Lib.hid (C.below HD14.out hb15)
      have HB15 := Lib.hid (HB14.out.trans (hb15.mono HB14.out.size))
      have HL15 := HL14
      clear hb15 HD14 HB14 HL14
      obtain ⟨na2, nc2, hvn2, -⟩ := hn15
      rw [strCells_len, List.length_map, E8.out] at hvn2
      subst hvn2
      go_wp2_with fail
      refine (C.rename [111, 119, 110] [116, 104, 105, 114, 100] 6 _ HD15.out HI8.out (by omega) (by simp) (by simp) M1.out).mono ?_
      rintro x w16 ⟨rfl, ⟨S16, hd16, hg16⟩, hb16⟩
      have HD16 := Lib.hid hd16
      have HB16 := Lib.hid (But.low HB15.out hb16 HL15.out)
      have HL16 : Hid (∀ k, S16 k → w.heap.size ≤ k) := Lib.hid fun k hk => (C.low HD16.out hk).1
      clear hd16 hb16 hg16 HD15 HB15 HL15
      go_wp2_with fail
      refine (C.rename [111, 116, 104, 101, 114] [111, 116, 104, 101, 114] 0 _ HD16.out HI8.out (by omega) (by simp) (by simp) M2.out).mono ?_
      rintro x w17 ⟨rfl, ⟨S17, hd17, hg17⟩, hb17⟩
      have HD17 := Lib.hid hd17
      have HB17 := Lib.hid (But.low HB16.out hb17 HL16.out)
      have HL17 : Hid (∀ k, S17 k → w.heap.size ≤ k) := Lib.hid fun k hk => (C.low HD17.out hk).1
      clear hd17 hb17 hg17 HD16 HB16 HL16
      go_wp2_with fail
      refine (C.synced [111, 116, 104, 101, 114] s.length HD17.out HI8.out (by omega) (by simp) Y1.out).mono ?_
      rintro x w18 ⟨rfl, hb18⟩
      have HD18 := Lib.hid (C.below HD17.out hb18)
      have HB18 := Lib.hid (HB17.out.trans (hb18.mono HB17.out.size))
      have HL18 := HL17
      clear hb18 HD17 HB17 HL17
      go_wp2
      go_ret
      exact ⟨rfl, HB18.out⟩
end Go.Proofs.Ytamfhndcekcloaa.D
