/-
  The walk of the law DiskRefuses over any disk that keeps its contracts.
-/
import Derived.Test.YtamfhndcekcloaaDiskShown
import Derived.Test.YtamfhndcekcloaaDiskLKeeps
import Derived.Test.YtamfhndcekcloaaRegionPass
import Derived.Test.YtamfhndcekcloaaDiskMap
namespace Go.Proofs.Ytamfhndcekcloaa.D
open Go.RowKit
attribute [local go_sem] ext_Bd ext_Bl ext_Bt toList_B add_B size_B get_Bt

theorem act_err {room op : Nat} {n m : Tx} {ks : List Int} {l : List F} (h : (act room op n m ks l).1 ≠ 0) : (act room op n m ks l).2 = l := by
  unfold D.act at h ⊢
  split at h
  · rename_i h1
    rw [if_pos h1]
    unfold D.append at h ⊢
    split
    · rfl
    split
    · rfl
    split
    · rfl
    · rename_i a b c
      rw [if_neg a, if_neg b, if_neg c] at h
      exact absurd rfl h
  · rename_i h1
    rw [if_neg h1]
    split at h
    · rename_i h2
      rw [if_pos h2]
      unfold D.sync at h ⊢
      cases hf : find n l with
      | none => rfl
      | some f => rw [hf] at h; exact absurd rfl h
    · rename_i h2
      rw [if_neg h2]
      split at h
      · rename_i h3
        rw [if_pos h3]
        unfold D.rename at h ⊢
        cases hf : find n l with
        | none => rfl
        | some f =>
          rw [hf] at h
          dsimp only at h ⊢
          split
          · rfl
          · rename_i h4
            rw [if_neg h4] at h
            exact absurd rfl h
      · rename_i h3
        rw [if_neg h3]
        split at h
        · rename_i h4
          rw [if_pos h4]
          unfold D.delete at h ⊢
          cases hf : find n l with
          | none => rfl
          | some f => rw [hf] at h; exact absurd rfl h
        · exact absurd rfl h
theorem leq_str {a b : Tx} (h1 : Op.bytesLess a b = false) (h2 : (a == b) = false) (w : World) : Sem.run Try.prog (binOp .leq 9 (.string (B a)) (.string (B b))) w = .ok (.bool false) w := by
  have e1 : (B a).toList = a := toList_B a
  have e2 : (B b).toList = b := toList_B b
  have h3 : ¬ a = b := fun e => by rw [e] at h2; simp at h2
  simp [binOp, Op.stringOp, e1, e2, h1, h3]
theorem sorted_at {l : List F} (h : Sorted l) {i j : Nat} (hj : j < l.length) (hij : i < j) : lt (l[i]'(by omega)).name l[j].name = true := by
  have := List.pairwise_iff_getElem.1 h i j (by omega) hj hij
  exact this
theorem Q1_drew {w1 w : World} {a : Addr} {v : Value} (h : w.cell? a = some v ∧ KeptB w1 w) : w.drew.cell? a = some v ∧ KeptB w1 w.drew := ⟨h.1, keptB_drew h.2⟩
theorem Q1_call {w1 w w2 : World} {a : Addr} {v : Value} (h : w.cell? a = some v ∧ KeptB w1 w) (hb : Below w.heap.size w w2) : w2.cell? a = some v ∧ KeptB w1 w2 := ⟨keeps hb _ _ h.1, keptB_call h.2 hb⟩
theorem Q2_drew {w1 w : World} {a b : Addr} {v u : Value} (h : w.cell? a = some v ∧ w.cell? b = some u ∧ KeptB w1 w) : w.drew.cell? a = some v ∧ w.drew.cell? b = some u ∧ KeptB w1 w.drew := ⟨h.1, h.2.1, keptB_drew h.2.2⟩
theorem Q2_call {w1 w w2 : World} {a b : Addr} {v u : Value} (h : w.cell? a = some v ∧ w.cell? b = some u ∧ KeptB w1 w) (hb : Below w.heap.size w w2) : w2.cell? a = some v ∧ w2.cell? b = some u ∧ KeptB w1 w2 := ⟨keeps hb _ _ h.1, keeps hb _ _ h.2.1, keptB_call h.2.2 hb⟩
set_option maxHeartbeats 16000000 in
set_option maxRecDepth 100000 in
theorem refuses_walk (C : DC) (acts : List Ac) (va : Value) (room : Int) (w : World) (hro : i64B room) (hA : ReadsA w va acts) :
    Calls Try.prog 5 #[.int .i64 room, va] w fun x w' => x = .returned (.bool true) ∧ Below w.heap.size w w' := by
  obtain ⟨pk, HPK⟩ : ∃ k, Hid (pickN room 3000 = k) := ⟨_, Lib.hid rfl⟩
  have hpk : pk < 3000 := by rw [← HPK.out]; exact pickN_lt room (by omega)
  have HRO := Lib.hid hro
  clear hro
  obtain ⟨aa, ca, hva, hxa⟩ := hA
  subst hva
  have HXA := Lib.hid hxa
  clear hxa
  go_enter Try.func5, Try.ntmps5
  go_wp2_with fail
  refine (shown8_l C w).mono ?_
  rintro x w1 ⟨rfl, hb1⟩
  have HB1 := Lib.hid hb1
  clear hb1
  go_wp2_with fail
  refine (small8_l acts _ w1 ⟨aa, ca, rfl, fun i h => by
    have := readsA_below ⟨aa, ca, rfl, HXA.out⟩ HB1.out
    obtain ⟨_, _, hv, hx⟩ := this
    cases hv
    exact hx i h⟩).mono ?_
  rintro x w1' ⟨hok, rfl⟩
  have HOK : Hid (x = .returned (.bool true) → SmallA acts) := Lib.hid fun h => by
    rcases hok with h1 | ⟨-, h2⟩
    · rw [h] at h1; cases h1
    · exact h2
  obtain ⟨ok, rfl⟩ : ∃ ok, x = .returned (.bool ok) := by rcases hok with h | ⟨h, -⟩ <;> exact ⟨_, h⟩
  clear hok
  go_wp2_with fail
  refine (pick_l room 3000 pk w1' HRO.out (by omega) (by omega) HPK).mono ?_
  rintro x w1x ⟨rfl, rfl⟩
  have HNEW := Lib.hid (C.new_ok (bs := w.heap.size) (w := w1x) (1 + pk) HB1.out.size (by omega) (by omega))
  rw [show ((1 + pk : Nat) : Int) = 1 + (pk : Int) by omega] at HNEW
  go_wp2_with fail
  refine HNEW.out.mono ?_
  rintro x w2 ⟨⟨p, S0, rfl, hd2, -⟩, hb2⟩
  have HB2 := Lib.hid (HB1.out.trans (hb2.mono HB1.out.size))
  have HST0 : Hid (Stand C w p (1 + pk) 0 w2 [] S0) := Lib.hid ⟨hd2, inv_nil _, (fun f hf => by cases hf), Nat.zero_le _, HB2.out⟩
  clear hd2 hb2 HB1 HNEW
  cases ok
  · go_wp2
    go_ret
    exact ⟨rfl, HB2.out⟩
  have HSM := Lib.hid (HOK.out rfl)
  have h80 : acts.length ≤ 80 := HSM.out.1
  clear HOK
  go_wp2
  go_loopw [9] (fun i wr => ∃ (j : Nat) (l : List F) (S : Nat → Prop), i = .int .i64 j ∧ j ≤ acts.length ∧ Stand C w p (1 + pk) j wr l S) (fun i _ => acts.length - (intOf i).toNat)
  case atStart => exact ⟨0, [], S0, rfl, Nat.zero_le _, HST0.out⟩
  case round =>
    obtain ⟨j, l, S, rfl, hj, hst⟩ := hrel
    have HST := Lib.hid hst
    clear hst HST0
    by_cases hlt : j < acts.length
    · have hj1 : (j : Int) < (acts.length : Int) := by omega
      obtain ⟨⟨hkr, hop, -, -⟩, b, off, hab, g0, g1, g2, g3⟩ := HXA.out j hlt
      subst hab
      have hsm := HSM.out.2 j hlt
      have G0 := Lib.hid g0
      have G1 := Lib.hid g1
      have G2 := Lib.hid g2
      have G3 := Lib.hid g3
      have HKR := Lib.hid hkr
      have HOP := Lib.hid hop
      clear g0 g1 g2 g3 hkr hop
      generalize acts[j] = ac at G0 G1 G2 G3 HKR HOP hsm
      obtain ⟨s1, s2, s3⟩ := hsm
      obtain ⟨⟨ka, kc, hv, -⟩, -⟩ : (∃ a cap, ac.v = .slice a ac.keep.length cap ∧ True) ∧ True := by
        obtain ⟨a, cap, hv, _⟩ := HKR.out
        exact ⟨⟨a, cap, hv, trivial⟩, trivial⟩
      rw [hv] at G3
      have HV := Lib.hid hv
      clear hv
      have HIN := Lib.hid HST.out.inv
      obtain ⟨ra, HRA⟩ : ∃ r, Hid (D.read ac.name l = r) := ⟨_, Lib.hid rfl⟩
      obtain ⟨rs, re⟩ := ra
      obtain ⟨e2, l2, HACT⟩ : ∃ e2 l2, Hid (act (1 + pk) (pickN ac.op 8) ac.name ac.more ac.keep l = (e2, l2)) := ⟨_, _, Lib.hid rfl⟩
      have HI2 : Hid (Inv (1 + pk) l2) := Lib.hid (by have := HIN.out.act (op := pickN ac.op 8) (n := ac.name) (m := ac.more) (ks := ac.keep); rw [HACT.out] at this; exact this)
      have HN2 : Hid (NamesLe l2) := Lib.hid (by have := HST.out.nam.act (room := 1 + pk) (op := pickN ac.op 8) (n := ac.name) (m := ac.more) (ks := ac.keep) (by omega) (by omega); rw [HACT.out] at this; exact this)
      have HU2 : Hid (used l2 ≤ 500 * (j + 1)) := Lib.hid (by have := used_act (op := pickN ac.op 8) (n := ac.name) (m := ac.more) (ks := ac.keep) HIN.out; rw [HACT.out] at this; have := HST.out.use; dsimp only at *; omega)
      have HER : Hid (e2 ≠ 0 → l2 = l) := Lib.hid fun h => by
        have := act_err (room := 1 + pk) (op := pickN ac.op 8) (n := ac.name) (m := ac.more) (ks := ac.keep) (l := l) (by rw [HACT.out]; exact h)
        rw [HACT.out] at this
        exact this
      go_wp2_with fail
      refine (C.list HST.out.at_ HIN.out (by omega)).mono ?_
      rintro x w3 ⟨⟨vn, rfl, hn3⟩, hb3⟩
      obtain ⟨na, nc, hvn, -⟩ := hn3
      rw [strCells_len, List.length_map] at hvn
      subst hvn
      have HD3 := Lib.hid (C.below HST.out.at_ hb3)
      have HB3 := Lib.hid (HST.out.bel.trans (hb3.mono HST.out.bel.size))
      clear hb3
      go_wp2_with fail
      refine (C.used HD3.out HIN.out (by omega)).mono ?_
      rintro x w4 ⟨rfl, hb4⟩
      have HD4 := Lib.hid (C.below HD3.out hb4)
      have HB4 := Lib.hid (HB3.out.trans (hb4.mono HB3.out.size))
      clear hb4 HD3 HB3
      have z1 := keeps HB4.out _ _ G1.out
      go_wp2_with fail
      refine (C.read ac.name rs re HD4.out HIN.out (by omega) (by omega) HRA.out).mono ?_
      rintro x w5 ⟨rfl, hb5⟩
      have HD5 := Lib.hid (C.below HD4.out hb5)
      have HB5 := Lib.hid (HB4.out.trans (hb5.mono HB4.out.size))
      have HL5 := Lib.hid HST.out.lo
      clear hb5 HD4 HB4 z1
      have z0 := keeps HB5.out _ _ G0.out
      have z1 := keeps HB5.out _ _ G1.out
      have z2 := keeps HB5.out _ _ G2.out
      have z3 := keeps HB5.out _ _ G3.out
      have HDO := Lib.hid (does_l C p (1 + pk) l ac e2 l2 S w5 HD5.out HIN.out (by omega) HOP.out s1 s2 s3 (fun w' hb => readsI_below HKR.out (But.low HB5.out hb HL5.out)) HACT)
      rw [HV.out] at HDO
      go_wp2_with fail
      refine HDO.out.mono ?_
      rintro x w6 ⟨rfl, ⟨S6, hd6, hg6⟩, hb6⟩
      have HD6 := Lib.hid hd6
      have HB6 := Lib.hid (But.low HB5.out hb6 HL5.out)
      have HL6 : Hid (∀ k, S6 k → w.heap.size ≤ k) := Lib.hid fun k hk => (C.low HD6.out hk).1
      clear hd6 hg6 hb6 HDO z0 z1 z2 z3 HD5 HB5 HL5 HACT
      have hul := HI2.out.room
      have hml := HI2.out.many
      go_upto_if 76 with (fail)
      go_cut [] (fun wx => Hid (Below w6.heap.size w6 wx))
      case first =>
        by_cases he : e2 = 0
        · subst he
          go_wp2
          go_meet
          exact Lib.hid (Below.refl _ _)
        · have hei : ((e2 : Int) == 0) = false := beq_eq_false_iff_ne.2 (by omega)
          have hen : ((e2 : Int) != 0) = true := bne_iff_ne.2 (by omega)
          have el := HER.out he
          subst el
          have z1 := keeps HB6.out _ _ G1.out
          clear HER
          go_wp2_with fail
          refine (C.read ac.name rs re HD6.out HIN.out (by omega) (by omega) HRA.out).mono ?_
          rintro x w7 ⟨rfl, hb7⟩
          have HB7 := Lib.hid hb7
          clear hb7 z1
          go_wp2_with fail
          refine (C.used (C.below HD6.out HB7.out) HIN.out (by omega)).mono ?_
          rintro x w8 ⟨rfl, hb8⟩
          have HB8 := Lib.hid (HB7.out.trans (hb8.mono HB7.out.size))
          clear hb8 HB7
          go_wp2_with fail
          refine (C.list (C.below HD6.out HB8.out) HIN.out (by omega)).mono ?_
          rintro x w9 ⟨⟨vn9, rfl, hn9⟩, hb9⟩
          obtain ⟨na9, nc9, hvn9, -⟩ := hn9
          rw [strCells_len, List.length_map] at hvn9
          subst hvn9
          have HB9 := Lib.hid (HB8.out.trans (hb9.mono HB8.out.size))
          clear hb9 HB8
          go_wp2
          go_meet
          exact HB9
      case rest =>
      have HBC := Lib.hid hcut.out
      clear hcut HER HRA
      have HDc := Lib.hid (C.below HD6.out HBC.out)
      have HBc := Lib.hid (HB6.out.trans (HBC.out.mono HB6.out.size))
      clear HD6 HB6 HBC
      go_wp2_with fail
      refine (C.list HDc.out HI2.out (by omega)).mono ?_
      rintro x w7 ⟨⟨vn7, rfl, hn7⟩, hb7⟩
      have HN7 := Lib.hid hn7
      obtain ⟨na7, nc7, hvn7, -⟩ := hn7
      rw [strCells_len, List.length_map] at hvn7
      subst hvn7
      have HD7 := Lib.hid (C.below HDc.out hb7)
      have HB7 := Lib.hid (HBc.out.trans (hb7.mono HBc.out.size))
      clear hb7 HDc HBc
      go_wp2
      go_loopw [16, 18] (fun z i wr => ∃ k m : Nat, i = .int .i64 k ∧ z = .int .i64 m ∧ k ≤ l2.length ∧ m ≤ 3000 ∧ Hid (m = used (l2.take k)) ∧ Hid (Below w7.heap.size w7 wr)) (fun _ i _ => l2.length - (intOf i).toNat)
      case atStart => exact ⟨0, 0, rfl, rfl, Nat.zero_le _, Nat.zero_le _, Lib.hid (by simp [used]), Lib.hid (Below.refl _ _)⟩
      case round =>
        obtain ⟨k, m, rfl, rfl, hk, hm, HM, HBR⟩ := hrel
        by_cases hkl : k < l2.length
        · have hk1 : (k : Int) < (l2.length : Int) := by omega
          obtain ⟨_, _, hv7, hx7⟩ := HN7.out
          rw [strCells_len, List.length_map] at hv7 hx7
          cases hv7
          have HX7 := Lib.hid hx7
          obtain ⟨b7, off7, hab7, g7⟩ := hx7 k hkl
          subst hab7
          have e0 : (strCells (l2.map F.name))[k]? = some (.string (B l2[k].name)) := by simp [strCells, hkl]
          rw [e0] at g7
          have HG7 := Lib.hid g7
          clear g7 e0 hx7
          have HFD := Lib.hid (find_mem HI2.out.sorted (List.getElem_mem hkl))
          have hnl := HN2.out _ (List.getElem_mem hkl)
          have hsy := HI2.out.syn _ (List.getElem_mem hkl)
          have hun := used_next hkl
          have hut := used_take l2 (k + 1)
          have hm2 : m + l2[k].data.length ≤ 3000 := by have := HM.out; omega
          have HM2 : Hid (m + l2[k].data.length = used (l2.take (k + 1))) := Lib.hid (by rw [hun, HM.out])
          clear hun hut HM
          have HPV : Hid (∀ k0, k = k0 + 1 → ∃ u : Tx, w7.cell? ⟨b7, off7 + k0, none⟩ = some (.string (B u)) ∧ Op.bytesLess l2[k].name u = false ∧ (l2[k].name == u) = false) := Lib.hid fun k0 hk0 => by
            have hk0l : k0 < l2.length := by omega
            obtain ⟨_, _, ea, gp⟩ := HX7.out k0 hk0l
            cases ea
            have e1 : (strCells (l2.map F.name))[k0]? = some (.string (B l2[k0].name)) := by simp [strCells, hk0l]
            rw [e1] at gp
            have hso := sorted_at HI2.out.sorted hkl (show k0 < k by omega)
            refine ⟨_, gp, lt_asymm hso, beq_eq_false_iff_ne.2 fun e => ?_⟩
            rw [e, lt_irrefl] at hso
            cases hso
          clear HX7
          generalize l2[k] = f at HG7 HFD hnl hsy hm2 HM2 HPV
          have HRE : Hid (D.read f.name l2 = (f.data, 0)) := Lib.hid (by unfold D.read; rw [HFD.out])
          have HSY : Hid (D.synced f.name l2 = f.syn) := Lib.hid (by unfold D.synced; rw [HFD.out])
          clear HFD
          have z7 := keeps HBR.out _ _ HG7.out
          go_wp2_with fail
          refine (C.read f.name f.data 0 (C.below HD7.out HBR.out) HI2.out (by omega) (by omega) HRE.out).mono ?_
          rintro x w8 ⟨rfl, hb8⟩
          have HB8 := Lib.hid (HBR.out.trans (hb8.mono HBR.out.size))
          clear hb8 z7 HBR
          have z8 := keeps HB8.out _ _ HG7.out
          have hsi : ¬ (f.data.length : Int) < (f.syn : Int) := by omega
          have hsd : decide ((f.data.length : Int) < (f.syn : Int)) = false := decide_eq_false hsi
          have HSC : Hid (∀ W, KeptB w8 W → Calls Try.prog 25 #[dP p, .string (B f.name)] W fun x w' => x = .returned (.int .i64 (f.syn : Int)) ∧ Below W.heap.size W w') := Lib.hid fun W h => C.synced f.name f.syn (C.below HD7.out (HB8.out.trans (Below.mono h HB8.out.size))) HI2.out (by omega) (by omega) HSY.out
          by_cases hk0 : k = 0
          · subst hk0
            clear HPV
            go_upto_region 23 with (fail)
            have hS : w8.cell? ⟨b7, off7, none⟩ = some (.string (B f.name)) ∧ KeptB w8 w8 := ⟨z8, Below.refl _ _⟩
            refine wp_region_held_drew (S := fun w' => w'.cell? ⟨b7, off7, none⟩ = some (.string (B f.name)) ∧ KeptB w8 w') (by kernel_rfl) ?_ (fun hHeld => ?_)
            · exact Q1_drew hS
            refine take_wanted (i := 0) (v := ?_) rfl (by kernel_rfl) (by kernel_rfl) (by kernel_rfl) (fun _ _ _ h => h) (by rfl) ?_ (by assumption) ?_
            rotate_left
            · intro w hSw
              (try dsimp only at hSw)
              go_simp
              (try with_reducible rfl)
            simp only [Act.put, List.setIfInBounds_toArray, List.set_cons_zero, List.set_cons_succ]
            refine take_wanted (i := 1) (v := ?_) rfl (by kernel_rfl) (by kernel_rfl) (by kernel_rfl) (fun _ _ _ h => h) (by rfl) ?_ (by assumption) ?_
            rotate_left
            · intro w hSw
              (try dsimp only at hSw)
              go_simp
              (try with_reducible rfl)
            simp only [Act.put, List.setIfInBounds_toArray, List.set_cons_zero, List.set_cons_succ]
            refine take_wanted (i := 2) (v := ?_) rfl (by kernel_rfl) (by kernel_rfl) (by kernel_rfl) (fun _ _ _ h => h) (by rfl) ?_ (by assumption) ?_
            rotate_left
            · intro w hSw
              (try dsimp only at hSw)
              go_simp
              (try with_reducible rfl)
            simp only [Act.put, List.setIfInBounds_toArray, List.set_cons_zero, List.set_cons_succ]
            refine take_wanted (i := 3) (v := ?_) rfl (by kernel_rfl) (by kernel_rfl) (by kernel_rfl) (fun _ _ _ h => h) (by rfl) ?_ (by assumption) ?_
            rotate_left
            · intro w hSw
              (try dsimp only at hSw)
              go_simp
              (try with_reducible rfl)
            simp only [Act.put, List.setIfInBounds_toArray, List.set_cons_zero, List.set_cons_succ]
            refine take_wanted (i := 4) (v := ?_) rfl (by kernel_rfl) (by kernel_rfl) (by kernel_rfl) (fun _ _ _ h => h) (by rfl) ?_ (by assumption) ?_
            rotate_left
            · intro w hSw
              (try dsimp only at hSw)
              go_simp
              (try with_reducible rfl)
            simp only [Act.put, List.setIfInBounds_toArray, List.set_cons_zero, List.set_cons_succ]
            refine take_wanted (i := 6) (v := ?_) rfl (by kernel_rfl) (by kernel_rfl) (by kernel_rfl) (fun _ _ _ h => h) (by rfl) ?_ (by assumption) ?_
            rotate_left
            · intro w hSw
              (try dsimp only at hSw)
              go_simp
              (try with_reducible rfl)
            simp only [Act.put, List.setIfInBounds_toArray, List.set_cons_zero, List.set_cons_succ]
            refine take_wanted (i := 7) (v := ?_) rfl (by kernel_rfl) (by kernel_rfl) (by kernel_rfl) (fun _ _ _ h => h) (by rfl) ?_ (by assumption) ?_
            rotate_left
            · intro w hSw
              (try dsimp only at hSw)
              go_simp
              (try with_reducible rfl)
            simp only [Act.put, List.setIfInBounds_toArray, List.set_cons_zero, List.set_cons_succ]
            refine take_only (i := 5) (by kernel_rfl) rfl (by rfl) (fun K hK => ?_)
            go_simp
            go_at_call 25
            refine (HSC.out _ hHeld.2).mono ?_
            rintro x w9 ⟨rfl, hb9⟩
            refine hK.out _ _ ?_ (fun hHeld => ?_)
            · exact Q1_call hHeld hb9
            clear hK K
            refine take_wanted (i := 8) (v := .bool false) rfl (by kernel_rfl) (by kernel_rfl) (by kernel_rfl) (fun _ _ _ h => h) (by rfl) ?_ (by assumption) ?_
            · intro w hSw
              (try dsimp only at hSw)
              go_simp
              try simp [hsi]
            simp only [Act.put, List.setIfInBounds_toArray, List.set_cons_zero, List.set_cons_succ]
            refine take_wanted (i := 9) (v := ?_) rfl (by kernel_rfl) (by kernel_rfl) (by kernel_rfl) (fun _ _ _ h => h) (by rfl) ?_ (by assumption) ?_
            rotate_left
            · intro w hSw
              (try dsimp only at hSw)
              go_simp
              (try with_reducible rfl)
            simp only [Act.put, List.setIfInBounds_toArray, List.set_cons_zero, List.set_cons_succ]
            refine take_wanted (i := 10) (v := ?_) rfl (by kernel_rfl) (by kernel_rfl) (by kernel_rfl) (fun _ _ _ h => h) (by rfl) ?_ (by assumption) ?_
            rotate_left
            · intro w hSw
              (try dsimp only at hSw)
              go_simp
              (try with_reducible rfl)
            simp only [Act.put, List.setIfInBounds_toArray, List.set_cons_zero, List.set_cons_succ]
            refine take_wanted (i := 11) (v := .bool false) rfl (by kernel_rfl) (by kernel_rfl) (by kernel_rfl) (fun _ _ _ h => h) (by rfl) ?_ (by assumption) ?_
            · intro w hSw
              (try dsimp only at hSw)
              go_simp
              try simp []
            simp only [Act.put, List.setIfInBounds_toArray, List.set_cons_zero, List.set_cons_succ]
            refine take_wanted (i := 12) (v := ?_) rfl (by kernel_rfl) (by kernel_rfl) (by kernel_rfl) (fun _ _ _ h => h) (by rfl) ?_ (by assumption) ?_
            rotate_left
            · intro w hSw
              (try dsimp only at hSw)
              go_simp
              (try with_reducible rfl)
            simp only [Act.put, List.setIfInBounds_toArray, List.set_cons_zero, List.set_cons_succ]
            refine take_passed (i := 13) rfl (by kernel_rfl) (by kernel_rfl) (by kernel_rfl) (fun _ _ _ h => h) (by rfl) (by assumption) ?_
            simp only [Act.put, List.setIfInBounds_toArray, List.set_cons_zero, List.set_cons_succ]
            refine take_passed (i := 14) rfl (by kernel_rfl) (by kernel_rfl) (by kernel_rfl) (fun _ _ _ h => h) (by rfl) (by assumption) ?_
            simp only [Act.put, List.setIfInBounds_toArray, List.set_cons_zero, List.set_cons_succ]
            refine take_passed (i := 15) rfl (by kernel_rfl) (by kernel_rfl) (by kernel_rfl) (fun _ _ _ h => h) (by rfl) (by assumption) ?_
            simp only [Act.put, List.setIfInBounds_toArray, List.set_cons_zero, List.set_cons_succ]
            refine take_passed (i := 16) rfl (by kernel_rfl) (by kernel_rfl) (by kernel_rfl) (fun _ _ _ h => h) (by rfl) (by assumption) ?_
            simp only [Act.put, List.setIfInBounds_toArray, List.set_cons_zero, List.set_cons_succ]
            refine take_passed (i := 17) rfl (by kernel_rfl) (by kernel_rfl) (by kernel_rfl) (fun _ _ _ h => h) (by rfl) (by assumption) ?_
            simp only [Act.put, List.setIfInBounds_toArray, List.set_cons_zero, List.set_cons_succ]
            refine take_passed (i := 18) rfl (by kernel_rfl) (by kernel_rfl) (by kernel_rfl) (fun _ _ _ h => h) (by rfl) (by assumption) ?_
            simp only [Act.put, List.setIfInBounds_toArray, List.set_cons_zero, List.set_cons_succ]
            refine take_passed (i := 19) rfl (by kernel_rfl) (by kernel_rfl) (by kernel_rfl) (fun _ _ _ h => h) (by rfl) (by assumption) ?_
            simp only [Act.put, List.setIfInBounds_toArray, List.set_cons_zero, List.set_cons_succ]
            refine take_passed (i := 20) rfl (by kernel_rfl) (by kernel_rfl) (by kernel_rfl) (fun _ _ _ h => h) (by rfl) (by assumption) ?_
            simp only [Act.put, List.setIfInBounds_toArray, List.set_cons_zero, List.set_cons_succ]
            refine take_passed (i := 21) rfl (by kernel_rfl) (by kernel_rfl) (by kernel_rfl) (fun _ _ _ h => h) (by rfl) (by assumption) ?_
            simp only [Act.put, List.setIfInBounds_toArray, List.set_cons_zero, List.set_cons_succ]
            refine take_passed (i := 22) rfl (by kernel_rfl) (by kernel_rfl) (by kernel_rfl) (fun _ _ _ h => h) (by rfl) (by assumption) ?_
            simp only [Act.put, List.setIfInBounds_toArray, List.set_cons_zero, List.set_cons_succ]
            refine take_wanted (i := 23) (v := ?_) rfl (by kernel_rfl) (by kernel_rfl) (by kernel_rfl) (fun _ _ _ h => h) (by rfl) ?_ (by assumption) ?_
            rotate_left
            · intro w hSw
              (try dsimp only at hSw)
              go_simp
              (try with_reducible rfl)
            simp only [Act.put, List.setIfInBounds_toArray, List.set_cons_zero, List.set_cons_succ]
            refine take_wanted (i := 24) (v := ?_) rfl (by kernel_rfl) (by kernel_rfl) (by kernel_rfl) (fun _ _ _ h => h) (by rfl) ?_ (by assumption) ?_
            rotate_left
            · intro w hSw
              (try dsimp only at hSw)
              go_simp
              (try with_reducible rfl)
            simp only [Act.put, List.setIfInBounds_toArray, List.set_cons_zero, List.set_cons_succ]
            refine wpAnyH_done (by kernel_rfl) ?_ _
            have HB9 := Lib.hid (HB8.out.trans (Below.mono hHeld.2 HB8.out.size))
            clear hHeld hS
            go_wp2
            go_roundw
            case rel => exact ⟨1, m + f.data.length, by go_num, by go_num, by omega, hm2, HM2, HB9⟩
            case measure => simp [intOf]; omega
          · obtain ⟨k0, hk0e⟩ : ∃ k0, k = k0 + 1 := ⟨k - 1, by omega⟩
            obtain ⟨u, gu, hlt2, hne2⟩ := HPV.out k0 hk0e
            clear HPV
            have zu := keeps HB8.out _ _ gu
            have hleq := leq_str hlt2 hne2
            have hke : (k : Int) - 1 = (k0 : Int) := by omega
            have hkn : 0 < k := by omega
            have hwk : IntKind.i64.wrap (k0 : Int) = (k0 : Int) := IntWalk.i64_in _ ⟨by omega, by omega⟩
            have hk0b : (k0 : Int) < (l2.length : Int) := by omega
            clear hk0e hk0 gu
            go_upto_region 23 with (fail)
            have hS : w8.cell? ⟨b7, off7 + k, none⟩ = some (.string (B f.name)) ∧ w8.cell? ⟨b7, off7 + k0, none⟩ = some (.string (B u)) ∧ KeptB w8 w8 := ⟨z8, zu, Below.refl _ _⟩
            refine wp_region_held_drew (S := fun w' => w'.cell? ⟨b7, off7 + k, none⟩ = some (.string (B f.name)) ∧ w'.cell? ⟨b7, off7 + k0, none⟩ = some (.string (B u)) ∧ KeptB w8 w') (by kernel_rfl) ?_ (fun hHeld => ?_)
            · exact Q2_drew hS
            refine take_wanted (i := 0) (v := ?_) rfl (by kernel_rfl) (by kernel_rfl) (by kernel_rfl) (fun _ _ _ h => h) (by rfl) ?_ (by assumption) ?_
            rotate_left
            · intro w hSw
              (try dsimp only at hSw)
              go_simp
              (try with_reducible rfl)
            simp only [Act.put, List.setIfInBounds_toArray, List.set_cons_zero, List.set_cons_succ]
            refine take_wanted (i := 1) (v := ?_) rfl (by kernel_rfl) (by kernel_rfl) (by kernel_rfl) (fun _ _ _ h => h) (by rfl) ?_ (by assumption) ?_
            rotate_left
            · intro w hSw
              (try dsimp only at hSw)
              go_simp
              (try with_reducible rfl)
            simp only [Act.put, List.setIfInBounds_toArray, List.set_cons_zero, List.set_cons_succ]
            refine take_wanted (i := 2) (v := ?_) rfl (by kernel_rfl) (by kernel_rfl) (by kernel_rfl) (fun _ _ _ h => h) (by rfl) ?_ (by assumption) ?_
            rotate_left
            · intro w hSw
              (try dsimp only at hSw)
              go_simp
              (try with_reducible rfl)
            simp only [Act.put, List.setIfInBounds_toArray, List.set_cons_zero, List.set_cons_succ]
            refine take_wanted (i := 3) (v := ?_) rfl (by kernel_rfl) (by kernel_rfl) (by kernel_rfl) (fun _ _ _ h => h) (by rfl) ?_ (by assumption) ?_
            rotate_left
            · intro w hSw
              (try dsimp only at hSw)
              go_simp
              (try with_reducible rfl)
            simp only [Act.put, List.setIfInBounds_toArray, List.set_cons_zero, List.set_cons_succ]
            refine take_wanted (i := 4) (v := ?_) rfl (by kernel_rfl) (by kernel_rfl) (by kernel_rfl) (fun _ _ _ h => h) (by rfl) ?_ (by assumption) ?_
            rotate_left
            · intro w hSw
              (try dsimp only at hSw)
              go_simp
              (try with_reducible rfl)
            simp only [Act.put, List.setIfInBounds_toArray, List.set_cons_zero, List.set_cons_succ]
            refine take_wanted (i := 6) (v := ?_) rfl (by kernel_rfl) (by kernel_rfl) (by kernel_rfl) (fun _ _ _ h => h) (by rfl) ?_ (by assumption) ?_
            rotate_left
            · intro w hSw
              (try dsimp only at hSw)
              go_simp
              (try with_reducible rfl)
            simp only [Act.put, List.setIfInBounds_toArray, List.set_cons_zero, List.set_cons_succ]
            refine take_wanted (i := 7) (v := ?_) rfl (by kernel_rfl) (by kernel_rfl) (by kernel_rfl) (fun _ _ _ h => h) (by rfl) ?_ (by assumption) ?_
            rotate_left
            · intro w hSw
              (try dsimp only at hSw)
              go_simp
              (try with_reducible rfl)
            simp only [Act.put, List.setIfInBounds_toArray, List.set_cons_zero, List.set_cons_succ]
            refine take_only (i := 5) (by kernel_rfl) rfl (by rfl) (fun K hK => ?_)
            go_simp
            go_at_call 25
            refine (HSC.out _ hHeld.2.2).mono ?_
            rintro x w9 ⟨rfl, hb9⟩
            refine hK.out _ _ ?_ (fun hHeld => ?_)
            · exact Q2_call hHeld hb9
            clear hK K
            refine take_wanted (i := 8) (v := .bool false) rfl (by kernel_rfl) (by kernel_rfl) (by kernel_rfl) (fun _ _ _ h => h) (by rfl) ?_ (by assumption) ?_
            · intro w hSw
              (try dsimp only at hSw)
              go_simp
              try simp [hsi]
            simp only [Act.put, List.setIfInBounds_toArray, List.set_cons_zero, List.set_cons_succ]
            refine take_wanted (i := 9) (v := ?_) rfl (by kernel_rfl) (by kernel_rfl) (by kernel_rfl) (fun _ _ _ h => h) (by rfl) ?_ (by assumption) ?_
            rotate_left
            · intro w hSw
              (try dsimp only at hSw)
              go_simp
              (try with_reducible rfl)
            simp only [Act.put, List.setIfInBounds_toArray, List.set_cons_zero, List.set_cons_succ]
            refine take_wanted (i := 10) (v := ?_) rfl (by kernel_rfl) (by kernel_rfl) (by kernel_rfl) (fun _ _ _ h => h) (by rfl) ?_ (by assumption) ?_
            rotate_left
            · intro w hSw
              (try dsimp only at hSw)
              go_simp
              (try with_reducible rfl)
            simp only [Act.put, List.setIfInBounds_toArray, List.set_cons_zero, List.set_cons_succ]
            refine take_wanted (i := 11) (v := .bool true) rfl (by kernel_rfl) (by kernel_rfl) (by kernel_rfl) (fun _ _ _ h => h) (by rfl) ?_ (by assumption) ?_
            · intro w hSw
              (try dsimp only at hSw)
              go_simp
              try simp [hkn]
            simp only [Act.put, List.setIfInBounds_toArray, List.set_cons_zero, List.set_cons_succ]
            refine take_wanted (i := 12) (v := ?_) rfl (by kernel_rfl) (by kernel_rfl) (by kernel_rfl) (fun _ _ _ h => h) (by rfl) ?_ (by assumption) ?_
            rotate_left
            · intro w hSw
              (try dsimp only at hSw)
              go_simp
              (try with_reducible rfl)
            simp only [Act.put, List.setIfInBounds_toArray, List.set_cons_zero, List.set_cons_succ]
            refine take_wanted (i := 13) (v := ?_) rfl (by kernel_rfl) (by kernel_rfl) (by kernel_rfl) (fun _ _ _ h => h) (by rfl) ?_ (by assumption) ?_
            rotate_left
            · intro w hSw
              (try dsimp only at hSw)
              go_simp
              (try with_reducible rfl)
            simp only [Act.put, List.setIfInBounds_toArray, List.set_cons_zero, List.set_cons_succ]
            refine take_wanted (i := 14) (v := ?_) rfl (by kernel_rfl) (by kernel_rfl) (by kernel_rfl) (fun _ _ _ h => h) (by rfl) ?_ (by assumption) ?_
            rotate_left
            · intro w hSw
              (try dsimp only at hSw)
              go_simp
              (try with_reducible rfl)
            simp only [Act.put, List.setIfInBounds_toArray, List.set_cons_zero, List.set_cons_succ]
            refine take_wanted (i := 15) (v := ?_) rfl (by kernel_rfl) (by kernel_rfl) (by kernel_rfl) (fun _ _ _ h => h) (by rfl) ?_ (by assumption) ?_
            rotate_left
            · intro w hSw
              (try dsimp only at hSw)
              go_simp
              (try with_reducible rfl)
            simp only [Act.put, List.setIfInBounds_toArray, List.set_cons_zero, List.set_cons_succ]
            refine take_wanted (i := 16) (v := ?_) rfl (by kernel_rfl) (by kernel_rfl) (by kernel_rfl) (fun _ _ _ h => h) (by rfl) ?_ (by assumption) ?_
            rotate_left
            · intro w hSw
              (try dsimp only at hSw)
              go_simp
              (try with_reducible rfl)
            simp only [Act.put, List.setIfInBounds_toArray, List.set_cons_zero, List.set_cons_succ]
            refine take_wanted (i := 17) (v := ?_) rfl (by kernel_rfl) (by kernel_rfl) (by kernel_rfl) (fun _ _ _ h => h) (by rfl) ?_ (by assumption) ?_
            rotate_left
            · intro w hSw
              (try dsimp only at hSw)
              go_simp
              (try with_reducible rfl)
            simp only [Act.put, List.setIfInBounds_toArray, List.set_cons_zero, List.set_cons_succ]
            refine take_wanted (i := 18) (v := ?_) rfl (by kernel_rfl) (by kernel_rfl) (by kernel_rfl) (fun _ _ _ h => h) (by rfl) ?_ (by assumption) ?_
            rotate_left
            · intro w hSw
              (try dsimp only at hSw)
              go_simp
              (try with_reducible rfl)
            simp only [Act.put, List.setIfInBounds_toArray, List.set_cons_zero, List.set_cons_succ]
            refine take_wanted (i := 19) (v := .int .i64 (k0 : Int)) rfl (by kernel_rfl) (by kernel_rfl) (by kernel_rfl) (fun _ _ _ h => h) (by rfl) ?_ (by assumption) ?_
            · intro w hSw
              (try dsimp only at hSw)
              go_simp
              try simp [hwk]
            simp only [Act.put, List.setIfInBounds_toArray, List.set_cons_zero, List.set_cons_succ]
            refine take_wanted (i := 20) (v := ?_) rfl (by kernel_rfl) (by kernel_rfl) (by kernel_rfl) (fun _ _ _ h => h) (by rfl) ?_ (by assumption) ?_
            rotate_left
            · intro w hSw
              (try dsimp only at hSw)
              go_simp
              (try with_reducible rfl)
            simp only [Act.put, List.setIfInBounds_toArray, List.set_cons_zero, List.set_cons_succ]
            refine take_wanted (i := 21) (v := ?_) rfl (by kernel_rfl) (by kernel_rfl) (by kernel_rfl) (fun _ _ _ h => h) (by rfl) ?_ (by assumption) ?_
            rotate_left
            · intro w hSw
              (try dsimp only at hSw)
              go_simp
              (try with_reducible rfl)
            simp only [Act.put, List.setIfInBounds_toArray, List.set_cons_zero, List.set_cons_succ]
            refine take_wanted (i := 22) (v := .bool false) rfl (by kernel_rfl) (by kernel_rfl) (by kernel_rfl) (fun _ _ _ h => h) (by rfl) ?_ (by assumption) ?_
            · intro w hSw
              (try dsimp only at hSw)
              go_simp
              try simp [hleq]
            simp only [Act.put, List.setIfInBounds_toArray, List.set_cons_zero, List.set_cons_succ]
            refine take_wanted (i := 23) (v := ?_) rfl (by kernel_rfl) (by kernel_rfl) (by kernel_rfl) (fun _ _ _ h => h) (by rfl) ?_ (by assumption) ?_
            rotate_left
            · intro w hSw
              (try dsimp only at hSw)
              go_simp
              (try with_reducible rfl)
            simp only [Act.put, List.setIfInBounds_toArray, List.set_cons_zero, List.set_cons_succ]
            refine take_wanted (i := 24) (v := ?_) rfl (by kernel_rfl) (by kernel_rfl) (by kernel_rfl) (fun _ _ _ h => h) (by rfl) ?_ (by assumption) ?_
            rotate_left
            · intro w hSw
              (try dsimp only at hSw)
              go_simp
              (try with_reducible rfl)
            simp only [Act.put, List.setIfInBounds_toArray, List.set_cons_zero, List.set_cons_succ]
            refine wpAnyH_done (by kernel_rfl) ?_ _
            have HB9 := Lib.hid (HB8.out.trans (Below.mono hHeld.2.2 HB8.out.size))
            clear hHeld hS
            go_wp2
            go_roundw
            case rel => exact ⟨k + 1, m + f.data.length, by go_num, by go_num, by omega, hm2, HM2, HB9⟩
            case measure => simp [intOf]; omega
        · have hk1 : ¬ (k : Int) < (l2.length : Int) := by omega
          have hmu : m = used l2 := by rw [HM.out, List.take_of_length_le (by omega)]
          clear HM
          go_wp2_with fail
          refine (C.used (C.below HD7.out HBR.out) HI2.out (by omega)).mono ?_
          rintro x w8 ⟨rfl, hb8⟩
          rw [← hmu]
          have HB8 := Lib.hid (HBR.out.trans (hb8.mono HBR.out.size))
          clear hb8
          go_wp2_with fail
          refine (pick_l room 3000 pk w8 HRO.out (by omega) (by omega) HPK).mono ?_
          rintro x w8x ⟨rfl, rfl⟩
          have hgt : ¬ (1 : Int) + (pk : Int) < (m : Int) := by omega
          have h40 : ¬ (40 : Int) < (l2.length : Int) := by omega
          have HST9 : Hid (Stand C w p (1 + pk) (j + 1) w8x l2 S6) := Lib.hid ⟨C.below HD7.out HB8.out, HI2.out, HN2.out, HU2.out, HB7.out.trans (HB8.out.mono HB7.out.size)⟩
          go_wp2
          go_roundw
          case rel => first | exact ⟨j + 1, l2, S6, by go_num, by omega, HST9.out⟩ | ((repeat apply Exists.intro); exact ⟨⟨j + 1, l2, S6, by go_num, by omega, HST9.out⟩, rfl⟩)
          case measure => simp [intOf]; omega
    · have hj1 : ¬ (j : Int) < (acts.length : Int) := by omega
      have HBE := Lib.hid HST.out.bel
      go_wp2
      go_ret
      exact ⟨rfl, HBE.out⟩
end Go.Proofs.Ytamfhndcekcloaa.D
