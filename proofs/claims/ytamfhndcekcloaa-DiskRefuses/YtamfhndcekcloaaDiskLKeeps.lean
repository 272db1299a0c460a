/-
  The walk of the law DiskKeeps over any disk that keeps its contracts.
-/
import Derived.Test.YtamfhndcekcloaaDiskShown
import Derived.Test.YtamfhndcekcloaaDiskLMoves
import Derived.Deep.DeepCutAuto
namespace Go.Proofs.Ytamfhndcekcloaa.D
open Go.RowKit
attribute [local go_sem] ext_Bd ext_Bl ext_Bt toList_B add_B size_B get_Bt

theorem below_grown0 {w w' : World} (h : w.grownBy w' none) : Below w.heap.size w w' := ⟨h.os, h.tape, h.output, h.size, fun k hk => h.block k hk (by simp)⟩
theorem below_set {base g j : Nat} {w0 w : World} {u : Value} (h : Below base w0 w) (hg : base ≤ g) : Below base w0 (w.setCell ⟨g, j, none⟩ u) :=
  ⟨h.os, h.tape, h.output, by simpa using h.size, fun k hk => by rw [set_oth (show k ≠ g by omega)]; exact h.block k hk⟩
theorem own_cell {w : World} {base e g n cap i : Nat} {xs : List Value} (h : w.ownsRow base e 1 (.slice (some ⟨g, 0, none⟩) n cap) n xs) (hi : i < n) : ∃ u, xs[i]? = some u ∧ w.cell? ⟨g, i, none⟩ = some u ∧ w.frozen? ⟨g, i, none⟩ = false := by
  obtain ⟨h1, h2⟩ := h
  rcases h2 with ⟨h2, _⟩ | ⟨g2, cap2, cur, hv, hb, hg, hn, hc, hs, ht⟩
  · cases h2
  · cases hv
    have hi2 : i < cur.size := by omega
    refine ⟨cur[i], ?_, by simp [World.cell?, hg, hi2], by simp [World.frozen?, hg]⟩
    rw [← ht, List.getElem?_take_of_lt (by omega)]
    simp [hi2]
theorem reads_row {w : World} {base g n cap : Nat} {xs : List Value} {z : Int} (hz : i64B z) (h : w.ownsRow base 3 1 (.slice (some ⟨g, 0, none⟩) n cap) n xs) (hx : ∀ i, i < n → xs[i]? = some (.int .i64 z)) : ReadsI w (.slice (some ⟨g, 0, none⟩) n cap) (List.replicate n z) := by
  refine ⟨some ⟨g, 0, none⟩, cap, by simp, fun i hi => ?_⟩
  rw [List.length_replicate] at hi
  obtain ⟨u, h1, h2, _⟩ := own_cell h hi
  rw [hx i hi] at h1
  cases h1
  refine ⟨by simpa using hz, g, 0, rfl, ?_⟩
  rw [Nat.zero_add, h2]
  simp
theorem crash_own {keep : Int} {s t : Tx} {n m : Nat} {l : List F} (hF : Full l) (hn : n = l.length + 1) (hm : m = min keep.toNat t.length) : D.crash (List.replicate n keep) (put ⟨[111, 119, 110], s ++ t, s.length⟩ l) = put ⟨[111, 119, 110], (s ++ t).take (s.length + m), s.length + m⟩ l := by
  rw [crash_put (k := keep) (fun x hx => (List.mem_replicate.1 hx).2) (by simp; omega) hF]
  have e : keepN keep ⟨[111, 119, 110], s ++ t, s.length⟩ = m := by
    unfold keepN
    rw [hm, List.length_append, Nat.add_sub_cancel_left]
  unfold crashF
  rw [e]
set_option maxHeartbeats 8000000 in
set_option maxRecDepth 100000 in
theorem keeps_walk (C : DC) (acts : List Ac) (va : Value) (s t : Tx) (keep : Int) (w : World) (hA : ReadsA w va acts) (hsm : s.length ≤ 9223372036854775807) (htm : t.length ≤ 9223372036854775807) (hke : i64B keep) :
    Calls Try.prog 4 #[va, .string (B s), .string (B t), .int .i64 keep] w fun x w' => x = .returned (.bool true) ∧ Below w.heap.size w w' := by
  obtain ⟨i0, hi, hz0, hz1, hz2⟩ := info_parts Try.infoInt
  have HKE := Lib.hid hke
  obtain ⟨aa, ca, hva, hxa⟩ := hA
  subst hva
  have HXA := Lib.hid hxa
  clear hxa
  go_enter Try.func4, Try.ntmps4
  go_wp2_with fail
  refine (shown8_l C w).mono ?_
  rintro x w1 ⟨rfl, hb1⟩
  have HB1 := Lib.hid hb1
  clear hb1
  go_wp2_with fail
  refine (small8_l acts _ w1 ⟨aa, ca, rfl, fun i h => by
    have := readsA_below ⟨aa, ca, rfl, HXA.out⟩ HB1.out
    obtain ⟨_, _, hv, hx⟩ := this
    cases hv
    exact hx i h⟩).mono ?_
  rintro x w1' ⟨hok, rfl⟩
  have HOK : Hid (x = .returned (.bool true) → SmallA acts) := Lib.hid fun h => by
    rcases hok with h1 | ⟨-, h2⟩
    · rw [h] at h1; cases h1
    · exact h2
  obtain ⟨ok, rfl⟩ : ∃ ok, x = .returned (.bool ok) := by rcases hok with h | ⟨h, -⟩ <;> exact ⟨_, h⟩
  clear hok
  go_wp2_with fail
  refine (C.new_ok (bs := w.heap.size) (w := w1') 100000 HB1.out.size (by omega) (by omega)).mono ?_
  rintro x w2 ⟨⟨p, S0, rfl, hd2, -⟩, hb2⟩
  have HB2 := Lib.hid (HB1.out.trans (hb2.mono HB1.out.size))
  have HST0 : Hid (Stand C w p 100000 0 w2 [] S0) := Lib.hid ⟨hd2, inv_nil _, (fun f hf => by cases hf), Nat.zero_le _, HB2.out⟩
  clear hd2 hb2 HB1
  cases ok
  · go_wp2
    go_ret
    exact ⟨rfl, HB2.out⟩
  have HSM := Lib.hid (HOK.out rfl)
  have h80 : acts.length ≤ 80 := HSM.out.1
  clear HOK
  by_cases h1 : 500 < s.length
  · have h1i : (500 : Int) < (s.length : Int) := by omega
    go_wp2
    go_ret
    exact ⟨rfl, HB2.out⟩
  have h1i : ¬ (500 : Int) < (s.length : Int) := by omega
  by_cases h2 : 500 < t.length
  · have h2i : (500 : Int) < (t.length : Int) := by omega
    go_wp2
    go_ret
    exact ⟨rfl, HB2.out⟩
  have h2i : ¬ (500 : Int) < (t.length : Int) := by omega
  go_wp2
  go_loopw [13] (fun i wr => ∃ (j : Nat) (l : List F) (S : Nat → Prop), i = .int .i64 j ∧ j ≤ acts.length ∧ Stand C w p 100000 j wr l S) (fun i _ => acts.length - (intOf i).toNat)
  case atStart => exact ⟨0, [], S0, rfl, Nat.zero_le _, HST0.out⟩
  case round =>
    obtain ⟨j, l, S, rfl, hj, hst⟩ := hrel
    have HST := Lib.hid hst
    clear hst HST0
    by_cases hlt : j < acts.length
    · have hj1 : (j : Int) < (acts.length : Int) := by omega
      obtain ⟨⟨hkr, hop, -, -⟩, b, off, hab, g0, g1, g2, g3⟩ := HXA.out j hlt
      subst hab
      have hsm := HSM.out.2 j hlt
      have z0 := keeps HST.out.bel _ _ g0
      have z1 := keeps HST.out.bel _ _ g1
      have z2 := keeps HST.out.bel _ _ g2
      have z3 := keeps HST.out.bel _ _ g3
      have HKR := Lib.hid hkr
      have HOP := Lib.hid hop
      clear g0 g1 g2 g3 hkr hop
      generalize acts[j] = ac at z0 z1 z2 z3 HKR HOP hsm
      obtain ⟨s1, s2, s3⟩ := hsm
      have HDO := Lib.hid (does_l C p 100000 l ac (act 100000 (pickN ac.op 8) ac.name ac.more ac.keep l).1 (act 100000 (pickN ac.op 8) ac.name ac.more ac.keep l).2 S wr HST.out.at_ HST.out.inv (by omega) HOP.out s1 s2 s3 (fun w' hb => readsI_below HKR.out (But.low HST.out.bel hb HST.out.lo)) (Lib.hid rfl))
      obtain ⟨⟨ka, kc, hv, -⟩, -⟩ : (∃ a cap, ac.v = .slice a ac.keep.length cap ∧ True) ∧ True := by
        obtain ⟨a, cap, hv, _⟩ := HKR.out
        exact ⟨⟨a, cap, hv, trivial⟩, trivial⟩
      rw [hv] at z3 HDO
      go_wp2_with fail
      refine HDO.out.mono ?_
      rintro x w2 ⟨rfl, ⟨S2, hd2, hg2⟩, hb2⟩
      have HST2 : Hid (Stand C w p 100000 (j + 1) w2 (act 100000 (pickN ac.op 8) ac.name ac.more ac.keep l).2 S2) := Lib.hid ⟨hd2, HST.out.inv.act, HST.out.nam.act (by omega) (by omega), by have := used_act (op := pickN ac.op 8) (n := ac.name) (m := ac.more) (ks := ac.keep) HST.out.inv; have := HST.out.use; omega, But.low HST.out.bel hb2 HST.out.lo⟩
      clear hd2 hg2 hb2 HDO z0 z1 z2 z3
      go_wp2
      go_roundw
      case rel => exact ⟨j + 1, _, S2, by go_num, by omega, HST2.out⟩
      case measure => simp [intOf]; omega
    · have hj1 : ¬ (j : Int) < (acts.length : Int) := by omega
      obtain ⟨at9, inv, nam, use, bel⟩ := HST.out
      have HD2 := Lib.hid at9
      have HBx := Lib.hid bel
      have HL2 := Lib.hid HST.out.lo
      have HI2 := Lib.hid inv
      clear HB2
      have HB2 := HBx
      have hus : used l ≤ 40000 := by omega
      clear at9 inv nam use bel HST HBx
      go_wp2_with fail
      refine (C.crash [] _ HD2.out HI2.out (by omega) (fun w' _ => readsI_nil w') (by simp)).mono ?_
      rintro x w3 ⟨rfl, ⟨S3, hd3, hg3⟩, hb3⟩
      have HD3 := Lib.hid hd3
      have HB3 := Lib.hid (But.low HB2.out hb3 HL2.out)
      have HL3 : Hid (∀ k, S3 k → w.heap.size ≤ k) := Lib.hid fun k hk => (C.low HD3.out hk).1
      clear hd3 hb3 hg3 HD2 HB2 HL2
      have HI3 := Lib.hid (HI2.out.crash (ks := []))
      have HU3 := Lib.hid (full_crash (ks := []) HI2.out.syn)
      have hu3 : used (D.crash [] l) ≤ 40000 := by have := used_crash [] l; omega
      obtain ⟨l3, HL3e⟩ : ∃ l3, Hid (D.crash [] l = l3) := ⟨_, Lib.hid rfl⟩
      rw [HL3e.out] at HD3 HI3 HU3 hu3
      clear HL3e HI2
      go_wp2_with fail
      refine (C.delete [111, 119, 110] _ _ HD3.out HI3.out (by omega) (by simp) (delete_is [111, 119, 110] l3)).mono ?_
      rintro x w4 ⟨rfl, ⟨S4, hd4, hg4⟩, hb4⟩
      have HD4 := Lib.hid hd4
      have HB4 := Lib.hid (But.low HB3.out hb4 HL3.out)
      have HL4 : Hid (∀ k, S4 k → w.heap.size ≤ k) := Lib.hid fun k hk => (C.low HD4.out hk).1
      clear hd4 hb4 hg4 HD3 HB3 HL3
      have HI4 := Lib.hid (HI3.out.del (n := [111, 119, 110]))
      have HU4 := Lib.hid (full_del (n := [111, 119, 110]) HU3.out)
      have HF4 := Lib.hid (find_del [111, 119, 110] l3)
      have hu4 : used (del [111, 119, 110] l3) ≤ 40000 := by have := used_del (n := [111, 119, 110]) HI3.out.sorted; omega
      obtain ⟨l4, HL4e⟩ : ∃ l4, Hid (del [111, 119, 110] l3 = l4) := ⟨_, Lib.hid rfl⟩
      rw [HL4e.out] at HD4 HI4 HF4 HU4 hu4
      clear HL4e HI3 HU3
      by_cases h40 : 40 ≤ l4.length
      · go_wp2_with fail
        refine (C.append [111, 119, 110] s 4 _ HD4.out HI4.out (by omega) (by simp) (by omega) (own_many HF4.out h40)).mono ?_
        rintro x w5 ⟨rfl, ⟨S5, hd5, hg5⟩, hb5⟩
        have HD5 := Lib.hid hd5
        have HB5 := Lib.hid (But.low HB4.out hb5 HL4.out)
        have HL5 : Hid (∀ k, S5 k → w.heap.size ≤ k) := Lib.hid fun k hk => (C.low HD5.out hk).1
        clear hd5 hb5 hg5 HD4 HB4 HL4
        go_wp2_with fail
        refine (C.list HD5.out HI4.out (by omega)).mono ?_
        rintro x w6 ⟨⟨vn, rfl, hn6⟩, hb6⟩
        have HD6 := Lib.hid (C.below HD5.out hb6)
        have HB6 := Lib.hid (HB5.out.trans (hb6.mono HB5.out.size))
        have HL6 := HL5
        clear hb6 HD5 HB5 HL5
        obtain ⟨na, nc, hvn, -⟩ := hn6
        rw [strCells_len, List.length_map] at hvn
        subst hvn
        have h40i : (40 : Int) ≤ (l4.length : Int) := by omega
        go_wp2
        go_ret
        exact ⟨rfl, HB6.out⟩
      have HI5 := Lib.hid (inv_put (n := [111, 119, 110]) (u := s) (z := 0) HI4.out (by omega) HF4.out h40 (by omega))
      have HI6 := Lib.hid (inv_put (n := [111, 119, 110]) (u := s) (z := s.length) HI4.out (by omega) HF4.out h40 (by omega))
      have HI7 := Lib.hid (inv_put (n := [111, 119, 110]) (u := s ++ t) (z := s.length) HI4.out (by simp) HF4.out h40 (by rw [List.length_append]; omega))
      go_wp2_with fail
      refine (C.append [111, 119, 110] s 0 _ HD4.out HI4.out (by omega) (by simp) (by omega) (own_first HF4.out h40 (by omega))).mono ?_
      rintro x w5 ⟨rfl, ⟨S5, hd5, hg5⟩, hb5⟩
      have HD5 := Lib.hid hd5
      have HB5 := Lib.hid (But.low HB4.out hb5 HL4.out)
      have HL5 : Hid (∀ k, S5 k → w.heap.size ≤ k) := Lib.hid fun k hk => (C.low HD5.out hk).1
      clear hd5 hb5 hg5 HD4 HB4 HL4
      go_wp2_with fail
      refine (C.sync [111, 119, 110] 0 _ HD5.out HI5.out (by omega) (by simp) own_sync).mono ?_
      rintro x w6 ⟨rfl, ⟨S6, hd6, hg6⟩, hb6⟩
      have HD6 := Lib.hid hd6
      have HB6 := Lib.hid (But.low HB5.out hb6 HL5.out)
      have HL6 : Hid (∀ k, S6 k → w.heap.size ≤ k) := Lib.hid fun k hk => (C.low HD6.out hk).1
      clear hd6 hb6 hg6 HD5 HB5 HL5
      go_wp2_with fail
      refine (C.append [111, 119, 110] t 0 _ HD6.out HI6.out (by omega) (by simp) (by omega) (own_second HI4.out.sorted HF4.out (by omega))).mono ?_
      rintro x w7 ⟨rfl, ⟨S7, hd7, hg7⟩, hb7⟩
      have HD7 := Lib.hid hd7
      have HB7 := Lib.hid (But.low HB6.out hb7 HL6.out)
      have HL7 : Hid (∀ k, S7 k → w.heap.size ≤ k) := Lib.hid fun k hk => (C.low HD7.out hk).1
      clear hd7 hb7 hg7 HD6 HB6 HL6
      have E7 := Lib.hid (own_len (n := [111, 119, 110]) (u := s ++ t) (z := s.length) HI4.out.sorted HF4.out)
      have U7 := Lib.hid (own_used (n := [111, 119, 110]) (u := s ++ t) (z := s.length) HI4.out.sorted HF4.out)
      go_wp2_with fail
      refine (C.list HD7.out HI7.out (by omega)).mono ?_
      rintro x w8 ⟨⟨vn, rfl, hn8⟩, hb8⟩
      have HD8 := Lib.hid (C.below HD7.out hb8)
      have HB8 := Lib.hid (HB7.out.trans (hb8.mono HB7.out.size))
      have HL8 := HL7
      clear hb8 HD7 HB7 HL7
      obtain ⟨na, nc, hvn, -⟩ := hn8
      rw [strCells_len, List.length_map, E7.out] at hvn
      subst hvn
      obtain ⟨m, HM⟩ : ∃ m : Nat, Hid (m = min keep.toNat t.length) := ⟨_, Lib.hid rfl⟩
      have hmt : m ≤ t.length := by rw [HM.out]; exact Nat.min_le_right _ _
      have HC9 := Lib.hid (crash_own (keep := keep) (s := s) (t := t) (n := l4.length + 1) (m := m) HU4.out rfl HM.out)
      have htl : ((s ++ t).take (s.length + m)).length = s.length + m := by rw [List.length_take, List.length_append]; omega
      have HI9 := Lib.hid (inv_put (n := [111, 119, 110]) (u := (s ++ t).take (s.length + m)) (z := s.length + m) HI4.out (by omega) HF4.out h40 (by omega))
      have U9 := Lib.hid (own_used (n := [111, 119, 110]) (u := (s ++ t).take (s.length + m)) (z := s.length + m) HI4.out.sorted HF4.out)
      rw [htl] at U9
      have HFP := Lib.hid (find_put (f := ⟨[111, 119, 110], (s ++ t).take (s.length + m), s.length + m⟩) l4)
      have R9 : Hid (D.read [111, 119, 110] (put ⟨[111, 119, 110], (s ++ t).take (s.length + m), s.length + m⟩ l4) = ((s ++ t).take (s.length + m), 0)) := Lib.hid (by have := HFP.out; dsimp only at this; unfold D.read; rw [this])
      have Y9 : Hid (D.synced [111, 119, 110] (put ⟨[111, 119, 110], (s ++ t).take (s.length + m), s.length + m⟩ l4) = s.length + m) := Lib.hid (by have := HFP.out; dsimp only at this; unfold D.synced; rw [this])
      obtain ⟨l9, HL9⟩ : ∃ l9, Hid (put ⟨[111, 119, 110], (s ++ t).take (s.length + m), s.length + m⟩ l4 = l9) := ⟨_, Lib.hid rfl⟩
      rw [HL9.out] at HC9 HI9 U9 R9 Y9
      clear HL9 HFP
      have hln : l4.length < 40 := by omega
      go_wp2_with (at_make; refine wpList_make_full _ rfl _ _ 34 rfl w8.heap.size 3 i0 (.int .i64 0) 1 Try.underlying34 hi hz0 hz1 .i64 .i64 _ _ (l4.length + 1) rfl rfl (by omega) (by omega) (by rw [hz2]; omega) (by unfold maxLen; omega) (Nat.le_refl _) ?_; intro w9 hown9 hgrow9; have HB9 := Lib.hid (below_grown0 hgrow9); have HO9 := Lib.hid hown9; clear hgrow9 hown9)
      have HOA : Hid (∀ i, i < l4.length + 1 → ∃ u, (madeCells (Value.int .i64 0).cells ((l4.length + 1) * 1)).toList[i]? = some u) := Lib.hid fun i h => by
        obtain ⟨u, h1, _⟩ := own_cell HO9.out h
        exact ⟨u, h1⟩
      generalize (madeCells (Value.int .i64 0).cells ((l4.length + 1) * 1)).toList = xs0 at HO9
      clear HOA
      go_loopw [16] (fun i wr => ∃ (j : Nat) (xs : List Value), i = .int .i64 j ∧ j ≤ l4.length + 1 ∧ Hid (wr.ownsRow w8.heap.size 3 1 (.slice (some ⟨w8.heap.size, 0, none⟩) (l4.length + 1) (l4.length + 1)) (l4.length + 1) xs) ∧ Hid (∀ i, i < j → xs[i]? = some (.int .i64 keep)) ∧ Hid (Below w8.heap.size w8 wr)) (fun i _ => l4.length + 1 - (intOf i).toNat)
      case atStart => exact ⟨0, xs0, rfl, Nat.zero_le _, HO9, Lib.hid fun i h => by omega, HB9⟩
      case round =>
        obtain ⟨j, xs, rfl, hj, HOX, HXS, HBR⟩ := hrel
        clear HO9 HB9
        by_cases hlt : j < l4.length + 1
        · have hj1 : (j : Int) < ((l4.length + 1 : Nat) : Int) := by omega
          have hj2 : (j : Int) < (l4.length : Int) + 1 := by omega
          obtain ⟨u, hxu, y0, f0⟩ := own_cell HOX.out hlt
          have HO2 := Lib.hid (row_set HOX.out (i := j) (.int .i64 keep))
          have HX2 : Hid (∀ i, i < j + 1 → (xs.set j (.int .i64 keep))[i]? = some (.int .i64 keep)) := Lib.hid fun i h => by
            rw [List.getElem?_set]
            by_cases e : j = i
            · subst e
              have := (List.getElem?_eq_some_iff.1 hxu).1
              simp [this]
            · rw [if_neg e]
              exact HXS.out i (by omega)
          have HB2 := Lib.hid (below_set (j := j) (u := .int .i64 keep) HBR.out (Nat.le_refl _))
          clear hxu
          go_wp2
          go_roundw
          case rel => exact ⟨j + 1, _, by go_num, by omega, HO2, HX2, HB2⟩
          case measure => simp [intOf]; omega
        · have hj1 : ¬ (j : Int) < ((l4.length + 1 : Nat) : Int) := by omega
          have hj2 : ¬ (j : Int) < (l4.length : Int) + 1 := by omega
          have HD9 := Lib.hid (C.below HD8.out HBR.out)
          have HB9 := Lib.hid (HB8.out.trans (HBR.out.mono HB8.out.size))
          have HL9 := HL8
          have HRI : Hid (∀ w', Below wr.heap.size wr w' ∨ But S7 wr w' → ReadsI w' (.slice (some ⟨w8.heap.size, 0, none⟩) (l4.length + 1) (l4.length + 1)) (List.replicate (l4.length + 1) keep)) := Lib.hid fun w' h => by
            have hg : wr.heap.size > w8.heap.size := by
              obtain ⟨_, _, y, _⟩ := own_cell HOX.out (i := 0) (by omega)
              have := World.block_lt_of_cell? wr _ y
              exact this
            have hblk : w'.heap[w8.heap.size]? = wr.heap[w8.heap.size]? := by
              rcases h with h | h
              · exact h.block _ hg
              · exact h.block _ hg fun hs => by have := (C.low HD8.out hs).2; omega
            refine reads_row HKE.out (base := w8.heap.size) (xs := xs) ?_ fun i hi => HXS.out i (by omega)
            obtain ⟨h1, h2⟩ := HOX.out
            refine ⟨h1, ?_⟩
            rcases h2 with h2 | ⟨g2, cap2, cur, hv, hb, hg2, hr⟩
            · exact .inl h2
            · cases hv
              exact .inr ⟨_, _, cur, rfl, hb, by rw [hblk]; exact hg2, hr⟩
          clear HOX HXS HB8 HD8
          go_wp2_with fail
          refine (C.used HD9.out HI7.out (by omega)).mono ?_
          rintro x w10 ⟨rfl, hb10⟩
          rw [U7.out]
          have HD10 := Lib.hid (C.below HD9.out hb10)
          have HB10 := Lib.hid (HB9.out.trans (hb10.mono HB9.out.size))
          have HBw := Lib.hid hb10
          clear hb10 HD9 HB9
          go_wp2_with fail
          refine (C.crash (List.replicate (l4.length + 1) keep) _ HD10.out HI7.out (by omega) (fun w' hb => HRI.out w' (.inr ((But.of_below HBw.out).trans hb))) (by simp; omega)).mono ?_
          rintro x w11 ⟨rfl, ⟨S11, hd11, hg11⟩, hb11⟩
          rw [HC9.out] at hd11
          have HD11 := Lib.hid hd11
          have HB11 := Lib.hid (But.low HB10.out hb11 HL9.out)
          clear hd11 hg11 hb11 HD10 HB10 HBw HRI
          go_wp2_with fail
          refine (C.read _ _ 0 HD11.out HI9.out (by omega) (by simp) R9.out).mono ?_
          rintro x w12 ⟨rfl, hb12⟩
          have HD12 := Lib.hid (C.below HD11.out hb12)
          have HB12 := Lib.hid (HB11.out.trans (hb12.mono HB11.out.size))
          clear hb12 HD11 HB11
          go_upto_region 23 with (fail)
          go_cut [20] (fun x wx => x = .int .i64 ((s.length : Int) + (m : Int)) ∧ w12 = wx)
          case first =>
            by_cases hbig : (t.length : Int) < keep
            · by_cases hp : (0 : Int) < (t.length : Int)
              · go_wp2
                go_meet
                exact ⟨int_eq (by have := HM.out; omega), rfl⟩
              · go_wp2
                go_meet
                exact ⟨int_eq (by have := HM.out; omega), rfl⟩
            · by_cases hp : 0 < keep
              · go_wp2
                go_meet
                exact ⟨int_eq (by have := HM.out; omega), rfl⟩
              · go_wp2
                go_meet
                exact ⟨int_eq (by have := HM.out; omega), rfl⟩
          case rest =>
          obtain ⟨rfl, rfl⟩ := hcut
          have hsl : (s.length : Int) + (m : Int) ≤ ((s ++ t).length : Int) := by rw [List.length_append]; omega
          have hsl2 : (s.length : Int) + (m : Int) ≤ (s.length : Int) + (t.length : Int) := by omega
          go_wp2_with fail
          refine (C.synced _ (s.length + m) HD12.out HI9.out (by omega) (by simp) Y9.out).mono ?_
          rintro x w13 ⟨rfl, hb13⟩
          have HD13 := Lib.hid (C.below HD12.out hb13)
          have HB13 := Lib.hid (HB12.out.trans (hb13.mono HB12.out.size))
          clear hb13 HD12 HB12
          go_wp2_with fail
          refine (C.used HD13.out HI9.out (by omega)).mono ?_
          rintro x w14 ⟨rfl, hb14⟩
          rw [U9.out]
          have HB14 := Lib.hid (HB13.out.trans (hb14.mono HB13.out.size))
          clear hb14
          have heq : ((used l4 : Int) + ((s.length : Int) + (m : Int)) == (used l4 : Int) + ((s.length : Int) + (t.length : Int)) - (s.length : Int) - (t.length : Int) + ((s.length : Int) + (m : Int))) = true := beq_iff_eq.2 (by omega)
          go_wp2
          go_ret
          exact ⟨rfl, HB14.out⟩
end Go.Proofs.Ytamfhndcekcloaa.D
