/-
  Proved: for every text the law EventOnce of package bucketlinelaw5 returns true, and its argument reads as before: what is taken fits, and put again it is the bytes that it was taken of. No condition.
-/
import Derived.Test.YtjjefdfjmkbbiaaEventHeld
import Derived.Test.YtjjefdfjmkbbiaaEventReader4
import Derived.Deep.RegionHeld3
import Derived.ProofKit
import Derived.OpenShut
import Derived.ShutString
namespace Go.Proofs.Ytjjefdfjmkbbiaa
open Go.ChangeShapes Go.WideShapes Go.ChangeAt Go.RowKit
open Go.ChangeMaps (open_string shut_string)
attribute [local go_sem] ext_Bd ext_Bl ext_Bt toList_B add_B size_B get_Bt

theorem eventOnce_own : ownKnob Try.prog.godebug = none := by kernel_rfl


theorem fits_small {b : E.Bat} (h : E.fits b = 0) : E.Small b := by
  obtain ⟨hh, h8, hr⟩ := E.fits_inv h
  refine ⟨by have := nameL_len hh.1; omega, by omega, fun e he => ?_⟩
  have := E.right_bd (List.all_eq_true.1 hr e he)
  exact ⟨by omega, by omega⟩

set_option maxHeartbeats 4000000 in
set_option maxRecDepth 100000 in
theorem eventOnce_l (s : List UInt8) (w : World) :
    Calls Try.prog 5 #[.string (B s)] w fun r w' => r = .returned (.bool true) ∧ Below w.heap.size w w' := by
  by_cases hs : 3000 < s.length
  · go_enter Try.func5, Try.ntmps5
    go_wp2_with fail
    refine (shown5_any _).mono ?_
    rintro x w1 ⟨rfl, hb1⟩
    go_wp2
    go_ret
    exact ⟨rfl, hb1⟩
  rcases K.cases (E.takeBat s) with ⟨c, hb⟩ | ⟨⟨st, ex, se, sq, evs⟩, r, hb⟩
  · have hc := E.bat_errs s c hb
    have HB := Lib.hid (show batRes (E.takeBat s) = (⟨[], 0, 0, 0, []⟩, [], c) by rw [hb]; rfl)
    have hcb : ((c : Int) == 0) = false := beq_eq_false_iff_ne.2 (by omega)
    have hcn : ¬ c = 0 := by omega
    clear hb hc
    go_enter Try.func5, Try.ntmps5
    go_wp2_with fail
    refine (shown5_any _).mono ?_
    rintro x w1 ⟨rfl, hb1⟩
    go_wp2_with fail
    refine (ETakeBat_at s _ _ _ w1 (by omega) HB).mono ?_
    rintro x w2 ⟨v, rfl, hv, hb2⟩
    obtain ⟨a, cap, rfl, _⟩ := hv
    have hb3 := hb1.trans (hb2.mono hb1.size)
    have HKB := Lib.hid (hb3.alloc hb3.size (.cells #[.string (B []), .int .i64 0, .int .i64 0, .int .i64 0, .slice a ([] : List E.Ev).length cap] 26))
    clear hb1 hb2 hb3
    simp only [List.length_nil] at HKB ⊢
    rcases K.cases (E.takeEv s) with ⟨c2, he⟩ | ⟨⟨ek, ed⟩, r2, he⟩
    · have hc2 := E.ev_errs s c2 he
      have HE := Lib.hid (show evRes (E.takeEv s) = (([], []), [], c2) by rw [he]; rfl)
      have hcb2 : ((c2 : Int) == 0) = false := beq_eq_false_iff_ne.2 (by omega)
      have hcn2 : ¬ c2 = 0 := by omega
      clear he hc2
      go_wp2_with fail
      refine (chain (ETake_at s _ _ _ _ (by omega) HE) HKB.out).mono ?_
      rintro x w8 ⟨rfl, hb8⟩
      have hb9 := hb8.alloc hb8.size (.cells #[.string (B []), .string (B [])] 23)
      go_wp2
      go_ret
      exact ⟨rfl, hb9⟩
    · have HI := Lib.hid (E.ev_inv he)
      have HE := Lib.hid (show evRes (E.takeEv s) = ((ek, ed), r2, 0) by rw [he]; rfl)
      have hbd := E.right_bd HI.out.2
      have hpl := E.putE_len (e := (ek, ed)) (by have := hbd.1; omega) (by have := hbd.2.1; omega)
      obtain ⟨pe, HPE⟩ : ∃ pe, Hid (E.putE (ek, ed) = pe) := ⟨_, Lib.hid rfl⟩
      have HPV := Lib.hid (show E.putEv (ek, ed) = pe by rw [E.putEv_ok HI.out.2]; exact HPE.out)
      have hcat : pe ++ r2 = s := by rw [← HPE.out]; exact HI.out.1.symm
      have HRT := Lib.hid HI.out.2
      have HBD := Lib.hid hbd
      rw [HPE.out] at hpl
      have hsl2 : pe.length + r2.length = s.length := by rw [← hcat, List.length_append]
      clear he HI hbd
      go_wp2_with fail
      refine (chain (ETake_at s _ _ _ _ (by omega) HE) HKB.out).mono ?_
      rintro x w8 ⟨rfl, hb8⟩
      have hb9 := hb8.alloc hb8.size (.cells #[.string (B ek), .string (B ed)] 23)
      go_wp2_with fail
      refine (Right_at (ek, ed) true _ (by have := HBD.out.1; show ek.length ≤ 1000; have h2 : ek.length ≤ 128 := this; omega) (by have h2 : ed.length ≤ 200 := HBD.out.2.1; show ed.length ≤ 1000; omega) HRT).mono ?_
      rintro x w10 ⟨rfl, hb10⟩
      have hb11 := hb9.trans (hb10.mono hb9.size)
      have e0 := box_at hb10 0
      have e1 := box_at hb10 1
      simp at e0 e1
      clear hb10 hb9
      go_wp2_with fail
      refine (chain (EPut_at (ek, ed) pe _ (by have h2 : ek.length ≤ 128 := HBD.out.1; show ek.length ≤ 1000; omega) (by have h2 : ed.length ≤ 200 := HBD.out.2.1; show ed.length ≤ 1000; omega) HPV) hb11).mono ?_
      rintro x w12 ⟨rfl, hb12⟩
      go_wp2
      go_ret
      exact ⟨rfl, hb12⟩
  · have HI := Lib.hid (E.take_inv hb)
    have HB := Lib.hid (show batRes (E.takeBat s) = (⟨st, ex, se, sq, evs⟩, r, 0) by rw [hb]; rfl)
    obtain ⟨pb, HPB⟩ : ∃ pb, Hid (E.bytes ⟨st, ex, se, sq, evs⟩ = pb) := ⟨_, Lib.hid rfl⟩
    have HPV := Lib.hid (show E.putBat ⟨st, ex, se, sq, evs⟩ = pb by rw [E.putBat_ok HI.out.2]; exact HPB.out)
    have hcatb : pb ++ r = s := by rw [← HPB.out]; exact HI.out.1.symm
    have hslb : pb.length + r.length = s.length := by rw [← hcatb, List.length_append]
    have HF := Lib.hid HI.out.2
    have HSM := Lib.hid (fits_small HI.out.2)
    clear hb HI
    go_enter Try.func5, Try.ntmps5
    go_wp2_with fail
    refine (shown5_any _).mono ?_
    rintro x w1 ⟨rfl, hb1⟩
    go_wp2_with fail
    refine (ETakeBat_at s _ _ _ w1 (by omega) HB).mono ?_
    rintro x w2 ⟨v, rfl, hv, hb2⟩
    have HV := Lib.hid hv
    obtain ⟨a, cap, rfl, _, _, _⟩ := hv
    have hb3 := hb1.trans (hb2.mono hb1.size)
    have hb4 := hb3.alloc hb3.size (.cells #[.string (B st), .int .i64 ex, .int .i64 se, .int .i64 sq, .slice a evs.length cap] 26)
    clear hb1 hb2
    go_wp2_with fail
    refine (Fits_at ⟨st, ex, se, sq, evs⟩ _ 0 _ (readsE_below HV.out ((Below.refl _ _).alloc (Nat.le_refl _) _)) HSM.out HF).mono ?_
    rintro x w5 ⟨rfl, hb5⟩
    have e0 := box_at hb5 0
    have e1 := box_at hb5 1
    have e2 := box_at hb5 2
    have e3 := box_at hb5 3
    have e4 := box_at hb5 4
    simp at e0 e1 e2 e3 e4
    have hb6 := hb4.trans (hb5.mono hb4.size)
    have HRD := Lib.hid (readsE_below HV.out (below_box hb5))
    clear hb5 hb4
    go_wp2_with fail
    refine (chain (EPutBat_at ⟨st, ex, se, sq, evs⟩ _ pb w5 HRD.out HSM.out HPV) hb6).mono ?_
    rintro x w7 ⟨rfl, hb7⟩
    have HKB := Lib.hid hb7
    clear hb7 hb6 e0 e1 e2 e3 e4
    rcases K.cases (E.takeEv s) with ⟨c2, he⟩ | ⟨⟨ek, ed⟩, r2, he⟩
    · have hc2 := E.ev_errs s c2 he
      have HE := Lib.hid (show evRes (E.takeEv s) = (([], []), [], c2) by rw [he]; rfl)
      have hcb2 : ((c2 : Int) == 0) = false := beq_eq_false_iff_ne.2 (by omega)
      have hcn2 : ¬ c2 = 0 := by omega
      clear he hc2
      go_wp2_with fail
      refine (chain (ETake_at s _ _ _ _ (by omega) HE) HKB.out).mono ?_
      rintro x w8 ⟨rfl, hb8⟩
      have hb9 := hb8.alloc hb8.size (.cells #[.string (B []), .string (B [])] 23)
      go_wp2
      go_ret
      exact ⟨rfl, hb9⟩
    · have HI := Lib.hid (E.ev_inv he)
      have HE := Lib.hid (show evRes (E.takeEv s) = ((ek, ed), r2, 0) by rw [he]; rfl)
      have hbd := E.right_bd HI.out.2
      have hpl := E.putE_len (e := (ek, ed)) (by have := hbd.1; omega) (by have := hbd.2.1; omega)
      obtain ⟨pe, HPE⟩ : ∃ pe, Hid (E.putE (ek, ed) = pe) := ⟨_, Lib.hid rfl⟩
      have HPV := Lib.hid (show E.putEv (ek, ed) = pe by rw [E.putEv_ok HI.out.2]; exact HPE.out)
      have hcat : pe ++ r2 = s := by rw [← HPE.out]; exact HI.out.1.symm
      have HRT := Lib.hid HI.out.2
      have HBD := Lib.hid hbd
      rw [HPE.out] at hpl
      have hsl2 : pe.length + r2.length = s.length := by rw [← hcat, List.length_append]
      clear he HI hbd
      go_wp2_with fail
      refine (chain (ETake_at s _ _ _ _ (by omega) HE) HKB.out).mono ?_
      rintro x w8 ⟨rfl, hb8⟩
      have hb9 := hb8.alloc hb8.size (.cells #[.string (B ek), .string (B ed)] 23)
      go_wp2_with fail
      refine (Right_at (ek, ed) true _ (by have := HBD.out.1; show ek.length ≤ 1000; have h2 : ek.length ≤ 128 := this; omega) (by have h2 : ed.length ≤ 200 := HBD.out.2.1; show ed.length ≤ 1000; omega) HRT).mono ?_
      rintro x w10 ⟨rfl, hb10⟩
      have hb11 := hb9.trans (hb10.mono hb9.size)
      have e0 := box_at hb10 0
      have e1 := box_at hb10 1
      simp at e0 e1
      clear hb10 hb9
      go_wp2_with fail
      refine (chain (EPut_at (ek, ed) pe _ (by have h2 : ek.length ≤ 128 := HBD.out.1; show ek.length ≤ 1000; omega) (by have h2 : ed.length ≤ 200 := HBD.out.2.1; show ed.length ≤ 1000; omega) HPV) hb11).mono ?_
      rintro x w12 ⟨rfl, hb12⟩
      go_wp2
      go_ret
      exact ⟨rfl, hb12⟩

theorem eventOnce_walk (s : ByteArray) (w : World) :
    Calls Try.prog 5 #[.string s] w fun r w' => r = .returned (.bool true) ∧ Below w.heap.size w w' := by
  rw [← B_L s]
  exact eventOnce_l (L s) w

set_option maxRecDepth 100000 in
theorem eventOnce_lifted (os : Os) (started : os.Started) (H : Type) (enc : TypeId × Value → H) :
    ReturnsInHanded {} Try.checked os 5 .any (Rows.eventOnceSpec.pre6 enc Try.prog Try.f5 Rows.eventOnceRow.domain false) (Rows.eventOnceSpec.post enc Try.prog Try.f5 false true false false) := by
  refine returnsInHanded_of_change (C := Try.checked) eventOnce_own started (by kernel_rfl) Try.func5
    (ChangeSpec.witness6 (enc := enc) (C := Try.checked) false ⟨#[], #[.string ByteArray.empty], []⟩ 8 (by kernel_rfl) (by kernel_rfl) (by kernel_rfl) (by kernel_rfl)) ?_
  intro W base args ds gs before hval0 hW _ _
  have hval : ∀ (j : Nat) t v, Try.f5.params[j]? = some t → args[j]? = some v → Value.okWide Try.prog W .any base t v := hval0
  have hW' := hW
  obtain ⟨p, q, hA0, hV, rfl, hfz, hnd⟩ := hW
  have hA : DataW.TrodAll enc Try.prog W 0 (fun _ => true) true Try.f5.params.toList args.toList ds p := hA0
  rw [Try.params5] at hA hval
  obtain ⟨v0, vs0, d0, ds0, p0, q0, hargs, rfl, rfl, h0, r0⟩ := trodAll_cons hA
  obtain ⟨rfl, rfl, rfl⟩ := trodAll_nil r0
  obtain rfl : args = #[v0] := by cases args; simp_all
  obtain ⟨rfl, rfl⟩ := trodVars_none hV
  obtain ⟨a0, rfl, rfl, rfl, w0⟩ := open_string Try.underlying9 (hval 0 9 v0 rfl rfl) h0
  clear hA0 hval0
  simp only [List.append_nil] at hW'
  refine (eventOnce_walk a0 W).mono fun e W' ⟨he, bel⟩ => ?_
  subst he
  exact ⟨_, rfl, _, _, _, [], [], [], hW', trodAll_mk1 (shut_bool Try.underlying4 _), (trodAll_cons_mk (shut_string Try.underlying9 w0) trodAll_mk0), rfl, bel.frame _, fun h => by cases h⟩

theorem eventOnce_holds : Rows.EventOnceSaid :=
  OpenClaim.holds_of_wide 5 Try.f5 rfl rfl rfl rfl rfl rfl rfl ⟨rfl, rfl, rfl, rfl, rfl⟩ rfl rfl rfl rfl rfl (by kernel_rfl) Try.func5 (by kernel_rfl)
    (of_decide_eq_true (by kernel_rfl)) (by unfold Func.isWrapper; first | (rw [if_pos (by decide +kernel)]; kernel_rfl) | (rw [if_neg (by decide +kernel)]; exact ⟨rfl, rfl⟩))
    (fun os started H enc _ => eventOnce_lifted os started H enc)
#print axioms eventOnce_holds

end Go.Proofs.Ytjjefdfjmkbbiaa
