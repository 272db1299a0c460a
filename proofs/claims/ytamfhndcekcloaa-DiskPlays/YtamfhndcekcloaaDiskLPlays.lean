/-
  The walk of the law DiskPlays over any disk that keeps its contracts.
-/
import Derived.Test.YtamfhndcekcloaaDiskLAlike
namespace Go.Proofs.Ytamfhndcekcloaa.D
open Go.RowKit
attribute [local go_sem] ext_Bd ext_Bl ext_Bt toList_B add_B size_B get_Bt

theorem MAt.lt {w : World} {bs p : Nat} {room : Int} {l : List F} (h : MAt bs w p room l) : p < w.heap.size := by
  obtain ⟨_, v, hp, _⟩ := h
  exact (Array.getElem?_eq_some_iff.1 hp).1
/-- The document's disk stays while blocks are written that are none of its own. -/
theorem MAt.but {w w' : World} {bs p : Nat} {room : Int} {l : List F} {S : Nat → Prop} (h : MAt bs w p room l) (hb : But S w w') (hp : ¬ S p) (hS : ∀ k c fr, S k → w.heap[k]? ≠ some (.cells c 68 fr)) : MAt bs w' p room l := by
  have hlt := h.lt
  obtain ⟨h1, v, hp2, hr⟩ := h
  refine ⟨h1, v, by rw [hb.block p hlt hp]; exact hp2, row_keep hr fun k c hk => ?_⟩
  rw [hb.block k (Array.getElem?_eq_some_iff.1 hk).1 fun h2 => hS k c _ h2 hk]
  exact hk
theorem Kp.low {w wr w' : World} {bs p : Nat} (hbs : bs = w.heap.size) (h : Below w.heap.size w wr) (hk : Kp bs p wr w') : Below w.heap.size w w' :=
  ⟨hk.os.trans h.os, hk.tape.trans h.tape, hk.output.trans h.output, Nat.le_trans h.size hk.size, fun k hlt => by
    have hlt2 : k < wr.heap.size := Nat.lt_of_lt_of_le hlt h.size
    obtain ⟨o, ho⟩ : ∃ o, wr.heap[k]? = some o := ⟨_, Array.getElem?_eq_getElem hlt2⟩
    rw [hk.block k o ho (.inl (by omega)), ← ho, h.block k hlt]⟩
theorem DC.kp (C : DC) {w w' : World} {bs p mp room : Nat} {l : List F} {S : Nat → Prop} (h : C.At bs w p room l S) (hk : Kp bs mp w w') (hm : ¬ S mp) : C.At bs w' p room l S :=
  C.keep h hk.size fun k hs => by
    obtain ⟨o, ho⟩ : ∃ o, w.heap[k]? = some o := ⟨_, Array.getElem?_eq_getElem (C.low h hs).2⟩
    rw [hk.block k o ho (.inr ⟨fun e => hm (e ▸ hs), fun c fr e => C.typ h hs (by rw [ho, e])⟩), ho]
/-- Where both disks stand. -/
structure PS (C : DC) (w : World) (p mp room : Nat) (wr : World) (l : List F) (S : Nat → Prop) : Prop where
  at_ : C.At w.heap.size wr p room l S
  mat : MAt w.heap.size wr mp (room : Int) l
  inv : Inv room l
  nam : NamesLe l
  bel : Below w.heap.size w wr
  off : ¬ S mp
theorem PS.lo {C : DC} {w : World} {p mp room : Nat} {wr : World} {l : List F} {S : Nat → Prop} (h : PS C w p mp room wr l S) : ∀ k, S k → w.heap.size ≤ k := fun _ hk => (C.low h.at_ hk).1
theorem PS.below {C : DC} {w : World} {p mp room : Nat} {wr w' : World} {l : List F} {S : Nat → Prop} (h : PS C w p mp room wr l S) (hb : Below wr.heap.size wr w') : PS C w p mp room w' l S :=
  ⟨C.below h.at_ hb, h.mat.below hb, h.inv, h.nam, h.bel.trans (hb.mono h.bel.size), h.off⟩
/-- Another disk is written. -/
theorem PS.other {C : DC} {w : World} {p mp room : Nat} {wr w' : World} {l : List F} {S T : Nat → Prop} (h : PS C w p mp room wr l S) (hb : But T wr w') (hT : ∀ k, T k → w.heap.size ≤ k) (hST : ∀ k, S k → ¬ T k) (hm : ¬ T mp) (hty : ∀ k c fr, T k → wr.heap[k]? ≠ some (.cells c 68 fr)) : PS C w p mp room w' l S :=
  ⟨C.but h.at_ hb hST, h.mat.but hb hm hty, h.inv, h.nam, But.low h.bel hb hT, h.off⟩
set_option maxHeartbeats 16000000 in
set_option maxRecDepth 100000 in
theorem plays_walk (C : DC) (room : Int) (acts : List Ac) (va : Value) (w : World) (hro : i64B room) (hA : ReadsA w va acts) :
    Calls Try.prog 3 #[.int .i64 room, va] w fun x w' => x = .returned (.bool true) ∧ Below w.heap.size w w' := by
  have HRO := Lib.hid hro
  clear hro
  obtain ⟨aa, ca, hva, hxa⟩ := hA
  subst hva
  have HXA := Lib.hid hxa
  clear hxa
  go_enter Try.func3, Try.ntmps3
  go_wp2_with fail
  refine (shown8_l C w).mono ?_
  rintro x w1 ⟨rfl, hb1⟩
  have HB1 := Lib.hid hb1
  clear hb1
  go_wp2_with fail
  refine (small8_l acts _ w1 ⟨aa, ca, rfl, fun i h => by
    have := readsA_below ⟨aa, ca, rfl, HXA.out⟩ HB1.out
    obtain ⟨_, _, hv, hx⟩ := this
    cases hv
    exact hx i h⟩).mono ?_
  rintro x w1' ⟨hok, rfl⟩
  have HOK : Hid (x = .returned (.bool true) → SmallA acts) := Lib.hid fun h => by
    rcases hok with h1 | ⟨-, h2⟩
    · rw [h] at h1; cases h1
    · exact h2
  obtain ⟨ok, rfl⟩ : ∃ ok, x = .returned (.bool ok) := by rcases hok with h | ⟨h, -⟩ <;> exact ⟨_, h⟩
  clear hok
  cases ok
  · go_wp2
    go_ret
    exact ⟨rfl, HB1.out⟩
  have HSM := Lib.hid (HOK.out rfl)
  have h80 : acts.length ≤ 80 := HSM.out.1
  clear HOK
  by_cases hbad : room < 1 ∨ 1073741824 < room
  · go_wp2_with fail
    refine (C.new_bad (w := w1') room hbad).mono ?_
    rintro x w2 ⟨rfl, hb2⟩
    have HB2 := Lib.hid (HB1.out.trans (hb2.mono HB1.out.size))
    clear hb2
    go_wp2_with fail
    refine (mNew_bad room w2 hbad).mono ?_
    rintro x w3 ⟨rfl, rfl⟩
    go_wp2
    go_ret
    exact ⟨rfl, HB2.out⟩
  obtain ⟨n, rfl⟩ : ∃ n : Nat, room = n := ⟨room.toNat, by omega⟩
  have hn1 : 1 ≤ n ∧ n ≤ 1073741824 := by omega
  clear hbad HRO
  go_wp2_with fail
  refine (C.new_ok (bs := w.heap.size) (w := w1') n HB1.out.size hn1.1 hn1.2).mono ?_
  rintro x w2 ⟨⟨p, S0, rfl, hd2, -⟩, hb2⟩
  have HB2 := Lib.hid (HB1.out.trans (hb2.mono HB1.out.size))
  have HD2 := Lib.hid hd2
  clear hb2 hd2
  go_wp2_with fail
  refine (mNew_ok (bs := w.heap.size) (n : Int) w2 HB2.out.size (by omega) (by omega)).mono ?_
  rintro x w3 ⟨rfl, hm3, hb3⟩
  obtain ⟨mp, HMP⟩ : ∃ mp, Hid (w2.heap.size = mp) := ⟨_, Lib.hid rfl⟩
  have HPS0 : Hid (PS C w p mp n w3 [] S0) := Lib.hid ⟨C.below HD2.out hb3, by rw [← HMP.out]; exact hm3, inv_nil _, fun f hf => absurd hf (by simp), HB2.out.trans (hb3.mono HB2.out.size), fun h => by have := (C.low HD2.out h).2; have := HMP.out; omega⟩
  clear hm3 hb3 HD2 HB1
  rw [HMP.out]
  go_wp2
  go_loopw [11] (fun i wr => ∃ (j : Nat) (l : List F) (S : Nat → Prop), i = .int .i64 j ∧ j ≤ acts.length ∧ PS C w p mp n wr l S) (fun i _ => acts.length - (intOf i).toNat)
  case atStart => exact ⟨0, [], S0, rfl, Nat.zero_le _, HPS0.out⟩
  case round =>
    obtain ⟨j, l, S, rfl, hj, hps⟩ := hrel
    have HPS := Lib.hid hps
    clear hps HPS0
    by_cases hlt : j < acts.length
    · have hj1 : (j : Int) < (acts.length : Int) := by omega
      have hjr : acts.length - 1 - j < acts.length := by omega
      obtain ⟨jr, HJR⟩ : ∃ jr, Hid (acts.length - 1 - j = jr) := ⟨_, Lib.hid rfl⟩
      rw [HJR.out] at hjr
      have hji : (acts.length : Int) - 1 - (j : Int) = (jr : Int) := by have := HJR.out; omega
      have hjrl : (jr : Int) < (acts.length : Int) := by omega
      obtain ⟨⟨hkrR, hopR, -, -⟩, bR, offR, habR, r0, r1, r2, r3⟩ := HXA.out jr hjr
      obtain ⟨⟨hkr, hop, -, -⟩, b, off, hab, g0, g1, g2, g3⟩ := HXA.out j hlt
      subst hab
      cases habR
      have hsmR := HSM.out.2 jr hjr
      have hsm := HSM.out.2 j hlt
      have R0 := Lib.hid r0
      have R1 := Lib.hid r1
      have R2 := Lib.hid r2
      have R3 := Lib.hid r3
      have G0 := Lib.hid g0
      have G1 := Lib.hid g1
      have G2 := Lib.hid g2
      have G3 := Lib.hid g3
      have HKRR := Lib.hid hkrR
      have HOPR := Lib.hid hopR
      have HKR := Lib.hid hkr
      have HOP := Lib.hid hop
      clear r0 r1 r2 r3 g0 g1 g2 g3 hkrR hopR hkr hop
      generalize acts[jr] = aR at R0 R1 R2 R3 HKRR HOPR hsmR
      generalize acts[j] = ac at G0 G1 G2 G3 HKR HOP hsm
      obtain ⟨sR1, sR2, sR3⟩ := hsmR
      obtain ⟨s1, s2, s3⟩ := hsm
      obtain ⟨kaR, kcR, hvR⟩ : ∃ a cap, aR.v = .slice a aR.keep.length cap := by
        obtain ⟨a, cap, hv, _⟩ := HKRR.out
        exact ⟨a, cap, hv⟩
      obtain ⟨ka, kc, hv⟩ : ∃ a cap, ac.v = .slice a ac.keep.length cap := by
        obtain ⟨a, cap, hv, _⟩ := HKR.out
        exact ⟨a, cap, hv⟩
      rw [hvR] at R3
      rw [hv] at G3
      have HVR := Lib.hid hvR
      have HV := Lib.hid hv
      clear hvR hv
      obtain ⟨e2, l2, HACT⟩ : ∃ e2 l2, Hid (act n (pickN ac.op 8) ac.name ac.more ac.keep l = (e2, l2)) := ⟨_, _, Lib.hid rfl⟩
      obtain ⟨eR, lR, HACTR⟩ : ∃ eR lR, Hid (act n (pickN aR.op 8) aR.name aR.more aR.keep l = (eR, lR)) := ⟨_, _, Lib.hid rfl⟩
      have HIN := Lib.hid HPS.out.inv
      have HI2 : Hid (Inv n l2) := Lib.hid (by have := HIN.out.act (op := pickN ac.op 8) (n := ac.name) (m := ac.more) (ks := ac.keep); rw [HACT.out] at this; exact this)
      have HN2 : Hid (NamesLe l2) := Lib.hid (by have := HPS.out.nam.act (room := n) (op := pickN ac.op 8) (n := ac.name) (m := ac.more) (ks := ac.keep) (by omega) (by omega); rw [HACT.out] at this; exact this)
      obtain ⟨rs, re, HRA⟩ : ∃ rs re, Hid (D.read ac.more l2 = (rs, re)) := ⟨_, _, Lib.hid rfl⟩
      go_wp2_with fail
      refine (C.clone HPS.out.at_ HIN.out hn1.2).mono ?_
      rintro x w5 ⟨⟨q, T, rfl, hc5, hT5⟩, hb5⟩
      have HPS5 := Lib.hid (HPS.out.below hb5)
      have HC5 := Lib.hid hc5
      have HTL : Hid (∀ k, T k → w.heap.size ≤ k) := Lib.hid fun k hk => Nat.le_trans HPS.out.bel.size (hT5 k hk)
      have HST : Hid (∀ k, S k → ¬ T k) := Lib.hid fun k h1 h2 => by
        have := (C.low HPS.out.at_ h1).2
        have := hT5 k h2
        omega
      have HTM : Hid (¬ T mp) := Lib.hid fun h => by
        have := HPS.out.mat.lt
        have := hT5 mp h
        omega
      clear hc5 hT5 hb5 HPS
      have z0 := keeps HPS5.out.bel _ _ R0.out
      have z1 := keeps HPS5.out.bel _ _ R1.out
      have z2 := keeps HPS5.out.bel _ _ R2.out
      have z3 := keeps HPS5.out.bel _ _ R3.out
      have HDO := Lib.hid (does_l C q n l aR eR lR T w5 HC5.out HIN.out hn1.2 HOPR.out sR1 sR2 sR3 (fun w' hb => readsI_below HKRR.out (But.low HPS5.out.bel hb HTL.out)) HACTR)
      rw [HVR.out] at HDO
      go_wp2_with fail
      refine HDO.out.mono ?_
      rintro x w6 ⟨rfl, -, hb6⟩
      have HPS6 := Lib.hid (HPS5.out.other hb6 HTL.out HST.out HTM.out fun k c fr hk => C.typ HC5.out hk)
      clear hb6 HDO z0 z1 z2 z3 HPS5 HC5 HTL HST HTM R0 R1 R2 R3 HACTR HKRR HOPR HVR
      have z0 := keeps HPS6.out.bel _ _ G0.out
      have z1 := keeps HPS6.out.bel _ _ G1.out
      have z2 := keeps HPS6.out.bel _ _ G2.out
      have z3 := keeps HPS6.out.bel _ _ G3.out
      have HDO := Lib.hid (does_l C p n l ac e2 l2 S w6 HPS6.out.at_ HIN.out hn1.2 HOP.out s1 s2 s3 (fun w' hb => readsI_below HKR.out (But.low HPS6.out.bel hb HPS6.out.lo)) HACT)
      rw [HV.out] at HDO
      go_wp2_with fail
      refine HDO.out.mono ?_
      rintro x w7 ⟨rfl, ⟨S7, hd7, hg7⟩, hb7⟩
      have HD7 := Lib.hid hd7
      have HB7 := Lib.hid (But.low HPS6.out.bel hb7 HPS6.out.lo)
      have HM7 := Lib.hid (HPS6.out.mat.but hb7 HPS6.out.off fun k c fr hk => C.typ HPS6.out.at_ hk)
      have HO7 : Hid (¬ S7 mp) := Lib.hid fun h => by
        rcases hg7 mp h with h2 | h2
        · exact HPS6.out.off h2
        · have := HPS6.out.mat.lt
          omega
      clear hd7 hg7 hb7 HDO z0 z1 z2 z3 HPS6
      have z0 := keeps HB7.out _ _ G0.out
      have z1 := keeps HB7.out _ _ G1.out
      have z2 := keeps HB7.out _ _ G2.out
      have z3 := keeps HB7.out _ _ G3.out
      have HMO := Lib.hid (model_l mp n l ac e2 l2 w7 HM7.out HIN.out hn1.2 HOP.out s1 s2 (fun w' hk => readsI_below HKR.out (hk.low rfl HB7.out)) HACT)
      rw [HV.out] at HMO
      go_wp2_with fail
      refine HMO.out.mono ?_
      rintro x w8 ⟨rfl, hm8, hk8⟩
      have HPS8 : Hid (PS C w p mp n w8 l2 S7) := Lib.hid ⟨C.kp HD7.out hk8 HO7.out, hm8, HI2.out, HN2.out, hk8.low rfl HB7.out, HO7.out⟩
      clear hm8 hk8 HMO z0 z1 z2 z3 HD7 HB7 HM7 HO7 G0 G1 G3 HKR HOP HV HACT HIN HI2 HN2
      have z2 := keeps HPS8.out.bel _ _ G2.out
      go_wp2_with fail
      refine (C.read ac.more rs re HPS8.out.at_ HPS8.out.inv hn1.2 (by omega) HRA.out).mono ?_
      rintro x w9 ⟨rfl, hb9⟩
      have HPS9 := Lib.hid (HPS8.out.below hb9)
      clear hb9 z2 HPS8
      have z2 := keeps HPS9.out.bel _ _ G2.out
      go_wp2_with fail
      refine (mRead_l mp n l2 ac.more rs re _ HPS9.out.mat HPS9.out.inv.sorted (by have := HPS9.out.inv.many; omega) HRA).mono ?_
      rintro x w10 ⟨rfl, hq10⟩
      have HPS10 := Lib.hid (HPS9.out.below (quiet_below hq10))
      clear hq10 z2 HPS9
      go_wp2_with fail
      refine (alike_l C p mp n l2 S7 _ HPS10.out.at_ HPS10.out.mat HPS10.out.inv hn1.2 HPS10.out.nam).mono ?_
      rintro x w11 ⟨rfl, hb11⟩
      have HPS11 := Lib.hid (HPS10.out.below hb11)
      clear hb11 HPS10
      go_wp2
      go_roundw
      case rel => exact ⟨j + 1, l2, S7, by go_num, by omega, HPS11.out⟩
      case measure => simp [intOf]; omega
    · have hj1 : ¬ (j : Int) < (acts.length : Int) := by omega
      have HBE := Lib.hid HPS.out.bel
      go_wp2
      go_ret
      exact ⟨rfl, HBE.out⟩
end Go.Proofs.Ytamfhndcekcloaa.D
