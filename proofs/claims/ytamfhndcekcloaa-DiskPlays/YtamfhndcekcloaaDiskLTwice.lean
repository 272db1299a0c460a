/-
  The walk of the law DiskTwice over any disk that keeps its contracts.
-/
import Derived.Test.YtamfhndcekcloaaDiskShown
namespace Go.Proofs.Ytamfhndcekcloaa.D
open Go.RowKit
attribute [local go_sem] ext_Bd ext_Bl ext_Bt toList_B add_B size_B get_Bt

theorem But.low {S : Nat → Prop} {w wr w' : World} (h : Below w.heap.size w wr) (hb : But S wr w') (hS : ∀ k, S k → w.heap.size ≤ k) : Below w.heap.size w w' :=
  ⟨hb.os.trans h.os, hb.tape.trans h.tape, hb.output.trans h.output, Nat.le_trans h.size hb.size, fun k hk => by
    rw [hb.block k (Nat.lt_of_lt_of_le hk h.size) (fun h2 => by have := hS k h2; omega), h.block k hk]⟩
def NamesLe (l : List F) : Prop := ∀ f ∈ l, f.name.length ≤ 1000
theorem NamesLe.put {l : List F} {f : F} (h : NamesLe l) (hf : f.name.length ≤ 1000) : NamesLe (put f l) := fun g hg => by
  rcases mem_put hg with rfl | hg
  · exact hf
  · exact h g hg
theorem NamesLe.del {l : List F} {n : Tx} (h : NamesLe l) : NamesLe (del n l) := fun g hg => h g (mem_del hg).1
theorem NamesLe.crash {l : List F} {ks : List Int} (h : NamesLe l) : NamesLe (crash ks l) := fun g hg => by
  obtain ⟨k, f, hf, rfl⟩ := mem_crash hg
  exact h f hf
theorem NamesLe.act {room op : Nat} {n m : Tx} {ks : List Int} {l : List F} (h : NamesLe l) (hn : n.length ≤ 1000) (hm : m.length ≤ 1000) : NamesLe (act room op n m ks l).2 := by
  unfold D.act
  split
  · unfold D.append
    split
    · exact h
    split
    · exact h
    split
    · exact h
    dsimp only
    refine h.put ?_
    cases find n l <;> exact hn
  split
  · unfold D.sync
    cases find n l with
    | none => exact h
    | some f => exact h.put hn
  split
  · unfold D.rename
    cases find n l with
    | none => exact h
    | some f =>
      dsimp only
      split
      · exact h
      · exact h.del.put hm
  split
  · unfold D.delete
    cases find n l with
    | none => exact h
    | some f => exact h.del
  · exact h.crash
theorem readsS_below {w w' : World} {v : Value} {xs : List Value} (h : Reads w v xs) (hb : Below w.heap.size w w') : Reads w' v xs := reads_below h hb
/-- Where a disk stands behind some acts. -/
structure Stand (C : DC) (w : World) (p room j : Nat) (wr : World) (l : List F) (S : Nat → Prop) : Prop where
  at_ : C.At w.heap.size wr p room l S
  inv : Inv room l
  nam : NamesLe l
  use : used l ≤ 500 * j
  bel : Below w.heap.size w wr
theorem Stand.lo {C : DC} {w : World} {p room j : Nat} {wr : World} {l : List F} {S : Nat → Prop} (h : Stand C w p room j wr l S) : ∀ k, S k → w.heap.size ≤ k := fun _ hk => (C.low h.at_ hk).1
set_option maxHeartbeats 8000000 in
set_option maxRecDepth 100000 in
theorem twice_walk (C : DC) (acts : List Ac) (va : Value) (one : List Int) (vo : Value) (two : List Int) (vt : Value) (w : World) (hA : ReadsA w va acts) (hO : ReadsI w vo one) (hT : ReadsI w vt two) :
    Calls Try.prog 8 #[va, vo, vt] w fun x w' => x = .returned (.bool true) ∧ Below w.heap.size w w' := by
  obtain ⟨aa, ca, hva, hxa⟩ := hA
  subst hva
  have HXA := Lib.hid hxa
  clear hxa
  have HO := Lib.hid hO
  have HT := Lib.hid hT
  obtain ⟨ao, co, hvo, -⟩ := hO
  subst hvo
  obtain ⟨at_, ct, hvt, -⟩ := hT
  subst hvt
  go_enter Try.func8, Try.ntmps8
  go_wp2_with fail
  refine (shown8_l C w).mono ?_
  rintro x w1 ⟨rfl, hb1⟩
  have HB1 := Lib.hid hb1
  clear hb1
  go_wp2_with fail
  refine (small8_l acts _ w1 ⟨aa, ca, rfl, fun i h => by
    have := readsA_below ⟨aa, ca, rfl, HXA.out⟩ HB1.out
    obtain ⟨_, _, hv, hx⟩ := this
    cases hv
    exact hx i h⟩).mono ?_
  rintro x w1' ⟨hok, rfl⟩
  have HOK : Hid (x = .returned (.bool true) → SmallA acts) := Lib.hid fun h => by
    rcases hok with h1 | ⟨-, h2⟩
    · rw [h] at h1; cases h1
    · exact h2
  obtain ⟨ok, rfl⟩ : ∃ ok, x = .returned (.bool ok) := by rcases hok with h | ⟨h, -⟩ <;> exact ⟨_, h⟩
  clear hok
  go_wp2_with fail
  refine (C.new_ok (bs := w.heap.size) (w := w1') 100000 HB1.out.size (by omega) (by omega)).mono ?_
  rintro x w2 ⟨⟨p, S0, rfl, hd2, -⟩, hb2⟩
  have HB2 := Lib.hid (HB1.out.trans (hb2.mono HB1.out.size))
  have HST0 : Hid (Stand C w p 100000 0 w2 [] S0) := Lib.hid ⟨hd2, inv_nil _, (fun f hf => by cases hf), Nat.zero_le _, HB2.out⟩
  clear hd2 hb2 HB1
  cases ok
  · go_wp2
    go_ret
    exact ⟨rfl, HB2.out⟩
  have HSM := Lib.hid (HOK.out rfl)
  have h80 : acts.length ≤ 80 := HSM.out.1
  clear HOK
  by_cases h1 : 60 < one.length
  · have h1i : (60 : Int) < (one.length : Int) := by omega
    go_wp2
    go_ret
    exact ⟨rfl, HB2.out⟩
  have h1i : ¬ (60 : Int) < (one.length : Int) := by omega
  by_cases h2 : 60 < two.length
  · have h2i : (60 : Int) < (two.length : Int) := by omega
    go_wp2
    go_ret
    exact ⟨rfl, HB2.out⟩
  have h2i : ¬ (60 : Int) < (two.length : Int) := by omega
  go_wp2
  go_loopw [11] (fun i wr => ∃ (j : Nat) (l : List F) (S : Nat → Prop), i = .int .i64 j ∧ j ≤ acts.length ∧ Stand C w p 100000 j wr l S) (fun i _ => acts.length - (intOf i).toNat)
  case atStart => exact ⟨0, [], S0, rfl, Nat.zero_le _, HST0.out⟩
  case round =>
    obtain ⟨j, l, S, rfl, hj, hst⟩ := hrel
    have HST := Lib.hid hst
    clear hst HST0
    by_cases hlt : j < acts.length
    · have hj1 : (j : Int) < (acts.length : Int) := by omega
      obtain ⟨⟨hkr, hop, -, -⟩, b, off, hab, g0, g1, g2, g3⟩ := HXA.out j hlt
      subst hab
      have hsm := HSM.out.2 j hlt
      have z0 := keeps HST.out.bel _ _ g0
      have z1 := keeps HST.out.bel _ _ g1
      have z2 := keeps HST.out.bel _ _ g2
      have z3 := keeps HST.out.bel _ _ g3
      have HKR := Lib.hid hkr
      have HOP := Lib.hid hop
      clear g0 g1 g2 g3 hkr hop
      generalize acts[j] = ac at z0 z1 z2 z3 HKR HOP hsm
      obtain ⟨s1, s2, s3⟩ := hsm
      have HDO := Lib.hid (does_l C p 100000 l ac (act 100000 (pickN ac.op 8) ac.name ac.more ac.keep l).1 (act 100000 (pickN ac.op 8) ac.name ac.more ac.keep l).2 S wr HST.out.at_ HST.out.inv (by omega) HOP.out s1 s2 s3 (fun w' hb => readsI_below HKR.out (But.low HST.out.bel hb HST.out.lo)) (Lib.hid rfl))
      obtain ⟨⟨ka, kc, hv, -⟩, -⟩ : (∃ a cap, ac.v = .slice a ac.keep.length cap ∧ True) ∧ True := by
        obtain ⟨a, cap, hv, _⟩ := HKR.out
        exact ⟨⟨a, cap, hv, trivial⟩, trivial⟩
      rw [hv] at z3 HDO
      go_wp2_with fail
      refine HDO.out.mono ?_
      rintro x w2 ⟨rfl, ⟨S2, hd2, hg2⟩, hb2⟩
      have HST2 : Hid (Stand C w p 100000 (j + 1) w2 (act 100000 (pickN ac.op 8) ac.name ac.more ac.keep l).2 S2) := Lib.hid ⟨hd2, HST.out.inv.act, HST.out.nam.act (by omega) (by omega), by have := used_act (op := pickN ac.op 8) (n := ac.name) (m := ac.more) (ks := ac.keep) HST.out.inv; have := HST.out.use; omega, But.low HST.out.bel hb2 HST.out.lo⟩
      clear hd2 hg2 hb2 HDO z0 z1 z2 z3
      go_wp2
      go_roundw
      case rel => exact ⟨j + 1, _, S2, by go_num, by omega, HST2.out⟩
      case measure => simp [intOf]; omega
    · have hj1 : ¬ (j : Int) < (acts.length : Int) := by omega
      obtain ⟨at9, inv, nam, use, bel⟩ := HST.out
      have HN1 := Lib.hid (nam.crash (ks := one))
      have HI1 := Lib.hid (inv.crash (ks := one))
      have HF1 := Lib.hid (full_crash (ks := one) inv.syn)
      have HLO := Lib.hid HST.out.lo
      have HBE := Lib.hid bel
      have HAT := Lib.hid at9
      have HIN := Lib.hid inv
      clear at9 inv nam use bel HST
      go_wp2_with fail
      refine (C.crash one _ HAT.out HIN.out (by omega) (fun w' hb => readsI_below HO.out (But.low HBE.out hb HLO.out)) (by omega)).mono ?_
      rintro x w3 ⟨rfl, ⟨S3, hd3, hg3⟩, hb3⟩
      have HD3 := Lib.hid hd3
      have HB3 := Lib.hid (But.low HBE.out hb3 HLO.out)
      clear hd3 hg3 hb3 HAT HIN HLO HBE
      obtain ⟨l1, HL1⟩ : ∃ l1, Hid (D.crash one l = l1) := ⟨_, Lib.hid rfl⟩
      rw [HL1.out] at HN1 HI1 HF1 HD3
      clear HL1
      have hl40 := HI1.out.many
      go_wp2_with fail
      refine (C.list HD3.out HI1.out (by omega)).mono ?_
      rintro x w4 ⟨⟨vn, rfl, hn4⟩, hb4⟩
      have HD4 := Lib.hid (C.below HD3.out hb4)
      have HB4 := Lib.hid (HB3.out.trans (hb4.mono HB3.out.size))
      have HN4 := Lib.hid hn4
      obtain ⟨na, nc, hvn, -⟩ := hn4
      rw [strCells_len, List.length_map] at hvn
      subst hvn
      clear hb4 HD3 HB3
      go_wp2_with fail
      refine (C.clone HD4.out HI1.out (by omega)).mono ?_
      rintro x w5 ⟨⟨q, T, rfl, hc5, hT5⟩, hb5⟩
      have HC5 := Lib.hid hc5
      have HD5 := Lib.hid (C.below HD4.out hb5)
      have HB5 := Lib.hid (HB4.out.trans (hb5.mono HB4.out.size))
      have HN5 := Lib.hid (reads_below HN4.out hb5)
      have HTN : Hid (∀ k, T k → w4.heap.size ≤ k) := Lib.hid hT5
      have HST5 : Hid (∀ k, S3 k → ¬ T k) := Lib.hid fun k h1 h2 => by
        have := (C.low HD4.out h1).2
        have := hT5 k h2
        omega
      have HSZ4 : Hid (w.heap.size ≤ w4.heap.size) := Lib.hid HB4.out.size
      have HND : Hid (∀ w', But T w5 w' → Reads w' (.slice na l1.length nc) (strCells (l1.map F.name))) := Lib.hid fun w' hb => by
        refine reads_cell HN4.out fun a u h => ?_
        have hlt := World.block_lt_of_cell? w4 _ h
        have e5 : w5.cell? a = some u := by rw [hb5.cell hlt]; exact h
        rw [World.cell?_of_block (hb.block a.block (Nat.lt_of_lt_of_le hlt hb5.size) fun ht => by have := hT5 _ ht; omega)]
        exact e5
      clear hc5 hb5 hT5 HN4 HD4 HB4
      go_wp2_with fail
      refine (C.crash two _ HC5.out HI1.out (by omega) (fun w' hb => readsI_below HT.out (But.low HB5.out hb fun k hk => by have := HTN.out k hk; have := HSZ4.out; omega)) (by omega)).mono ?_
      rintro x w6 ⟨rfl, ⟨T6, hc6, hg6⟩, hb6⟩
      rw [crash_full HF1.out] at hc6
      have HC6 := Lib.hid hc6
      have HD6 := Lib.hid (C.but HD5.out hb6 HST5.out)
      have HN6 := Lib.hid (HND.out w6 hb6)
      have HB6 := Lib.hid (But.low HB5.out hb6 fun k hk => by have := HTN.out k hk; have := HSZ4.out; omega)
      clear hc6 hg6 hb6 HC5 HD5 HN5 HB5 HTN HST5 HSZ4 HND
      go_wp2
      go_loopw [14] (fun i wr => ∃ j : Nat, i = .int .i64 j ∧ j ≤ l1.length ∧ Below w6.heap.size w6 wr) (fun i _ => l1.length - (intOf i).toNat)
      case atStart => exact ⟨0, rfl, Nat.zero_le _, Below.refl _ _⟩
      case round =>
        obtain ⟨j, rfl, hj, hbr⟩ := hrel
        have HBR := Lib.hid hbr
        have HBW := Lib.hid (HB6.out.trans (hbr.mono HB6.out.size))
        clear hbr
        by_cases hlt : j < l1.length
        · have hj1 : (j : Int) < (l1.length : Int) := by omega
          obtain ⟨_, _, hv, hx⟩ := HN6.out
          rw [strCells_len, List.length_map] at hv hx
          cases hv
          obtain ⟨b, off, hab, g0⟩ := hx j hlt
          subst hab
          have e0 : (strCells (l1.map F.name))[j]? = some (.string (B l1[j].name)) := by simp [strCells, hlt]
          rw [e0] at g0
          have HX0 := Lib.hid g0
          have z0 := keeps HBR.out _ _ g0
          have HFD := Lib.hid (find_mem HI1.out.sorted (List.getElem_mem hlt))
          have hnl := HN1.out _ (List.getElem_mem hlt)
          have HFU := Lib.hid (HF1.out _ (List.getElem_mem hlt))
          clear g0 e0 hx
          generalize l1[j] = f at z0 HFD hnl HFU HX0
          have HRE : Hid (D.read f.name l1 = (f.data, 0)) := Lib.hid (by unfold D.read; rw [HFD.out])
          have HSY : Hid (D.synced f.name l1 = f.data.length) := Lib.hid (by unfold D.synced; rw [HFD.out]; exact HFU.out)
          clear HFD HFU
          go_wp2_with fail
          refine (C.read f.name f.data 0 (C.below HD6.out HBR.out) HI1.out (by omega) (by omega) HRE.out).mono ?_
          rintro x w7 ⟨rfl, hb7⟩
          have HB7 := Lib.hid (HBR.out.trans (hb7.mono HBR.out.size))
          clear hb7 z0
          have z0 := keeps HB7.out _ _ HX0.out
          go_wp2_with fail
          refine (C.read f.name f.data 0 (C.below HC6.out HB7.out) HI1.out (by omega) (by omega) HRE.out).mono ?_
          rintro x w8 ⟨rfl, hb8⟩
          have HB8 := Lib.hid (HB7.out.trans (hb8.mono HB7.out.size))
          clear hb8 z0 HB7
          have z0 := keeps HB8.out _ _ HX0.out
          go_wp2_with fail
          refine (C.synced f.name f.data.length (C.below HC6.out HB8.out) HI1.out (by omega) (by omega) HSY.out).mono ?_
          rintro x w9 ⟨rfl, hb9⟩
          have HB9 := Lib.hid (HB8.out.trans (hb9.mono HB8.out.size))
          clear hb9 z0 HB8
          have z0 := keeps HB9.out _ _ HX0.out
          go_wp2_with fail
          refine (C.synced f.name f.data.length (C.below HD6.out HB9.out) HI1.out (by omega) (by omega) HSY.out).mono ?_
          rintro x w10 ⟨rfl, hb10⟩
          have HB10 := Lib.hid (HB9.out.trans (hb10.mono HB9.out.size))
          clear hb10 z0 HB9
          go_wp2
          go_roundw
          case rel => exact ⟨j + 1, by go_num, by omega, HB10.out⟩
          case measure => simp [intOf]; omega
        · have hj1 : ¬ (j : Int) < (l1.length : Int) := by omega
          go_wp2_with fail
          refine (C.list (C.below HC6.out HBR.out) HI1.out (by omega)).mono ?_
          rintro x w7 ⟨⟨vn2, rfl, hn7⟩, hb7⟩
          have HB7 := Lib.hid (HBR.out.trans (hb7.mono HBR.out.size))
          obtain ⟨na2, nc2, hvn2, -⟩ := hn7
          rw [strCells_len, List.length_map] at hvn2
          subst hvn2
          clear hb7
          go_wp2_with fail
          refine (C.used (C.below HC6.out HB7.out) HI1.out (by omega)).mono ?_
          rintro x w8 ⟨rfl, hb8⟩
          have HB8 := Lib.hid (HB7.out.trans (hb8.mono HB7.out.size))
          clear hb8
          go_wp2_with fail
          refine (C.used (C.below HD6.out HB8.out) HI1.out (by omega)).mono ?_
          rintro x w9 ⟨rfl, hb9⟩
          have HB9 := Lib.hid (HB6.out.trans ((HB8.out.trans (hb9.mono HB8.out.size)).mono HB6.out.size))
          clear hb9
          go_wp2
          go_ret
          exact ⟨rfl, HB9.out⟩
end Go.Proofs.Ytamfhndcekcloaa.D
