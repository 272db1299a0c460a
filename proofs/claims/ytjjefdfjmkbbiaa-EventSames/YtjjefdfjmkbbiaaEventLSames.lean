/-
  Proved: for every two batches the law EventSames of package bucketlinelaw5 returns true, and its arguments read as before: batches are the same just if their bytes are, of those that fit. No condition.
-/
import Derived.Test.YtjjefdfjmkbbiaaEventHeld
import Derived.Test.YtjjefdfjmkbbiaaEventMore
import Derived.Test.YtjjefdfjmkbbiaaEventHeld2
import Derived.Test.YtjjefdfjmkbbiaaRegionPass
import Derived.Deep.RegionHeld3
import Derived.ProofKit
import Derived.OpenShut
import Derived.ShutString
namespace Go.Proofs.Ytjjefdfjmkbbiaa
open Go.ChangeShapes Go.WideShapes Go.ChangeAt Go.RowKit
open Go.ChangeMaps (open_string shut_string)
attribute [local go_sem] ext_Bd ext_Bl ext_Bt toList_B add_B size_B get_Bt

theorem eventSames_own : ownKnob Try.prog.godebug = none := by kernel_rfl
theorem eventSames_laid : laidOutB Try.prog = true := by kernel_rfl


theorem light_small2 {b : E.Bat} (h : E.Light b) : E.Small b := ⟨by have := h.1; omega, by have := h.2.1; omega, fun e he => by have := h.2.2 e he; omega⟩

set_option maxHeartbeats 4000000 in
set_option maxRecDepth 100000 in
theorem eventSames_walk (ba : E.Bat) (va : Value) (bb : E.Bat) (vb : Value) (w : World) (ha : ReadsE w va ba.events) (hb : ReadsE w vb bb.events) :
    Calls Try.prog 6 #[batV ba va, batV bb vb] w fun r w' => r = .returned (.bool true) ∧ Below w.heap.size w w' := by
  obtain ⟨s1, x1, y1, z1, es1⟩ := ba
  obtain ⟨s2, x2, y2, z2, es2⟩ := bb
  dsimp only at ha hb
  have HV1 := Lib.hid ha
  have HV2 := Lib.hid hb
  obtain ⟨a1, c1, rfl, _, _, _⟩ := ha
  obtain ⟨a2, c2, rfl, _, _, _⟩ := hb
  go_enter Try.func6, Try.ntmps6
  go_wp2_with fail
  refine (shown5_any _).mono ?_
  rintro x w1 ⟨rfl, hb1⟩
  have hS1 := BB_made w hb1
  clear hb1
  go_wp2_with fail
  refine (light_l ⟨s1, x1, y1, z1, es1⟩ _ w1 (readsE_below HV1.out (BB_below hS1))).mono ?_
  rintro x w2 ⟨hres, hb2⟩
  have hS2 := BB_call hS1 hb2
  clear hS1 hb2
  rcases hres with rfl | ⟨rfl, hl1⟩
  · go_wp2_with fail
    refine (light_l ⟨s2, x2, y2, z2, es2⟩ _ w2 (readsE_below HV2.out (BB_below hS2))).mono ?_
    rintro x w3 ⟨hres, hb3⟩
    have hkb := BB_below (BB_call hS2 hb3)
    clear hS2 hb3
    rcases hres with rfl | ⟨rfl, _⟩
    all_goals
      go_wp2
      go_ret
      exact ⟨rfl, hkb⟩
  go_wp2_with fail
  refine (light_l ⟨s2, x2, y2, z2, es2⟩ _ w2 (readsE_below HV2.out (BB_below hS2))).mono ?_
  rintro x w3 ⟨hres, hb3⟩
  have hS := BB_call hS2 hb3
  clear hS2 hb3
  have hkb := BB_below hS
  rcases hres with rfl | ⟨rfl, hl2⟩
  · go_wp2
    go_ret
    exact ⟨rfl, hkb⟩
  clear hkb
  have HL1 := Lib.hid (light_small2 hl1)
  have HL2 := Lib.hid (light_small2 hl2)
  clear hl1 hl2
  obtain ⟨r, HR⟩ : ∃ r, Hid (E.sameB ⟨s1, x1, y1, z1, es1⟩ ⟨s2, x2, y2, z2, es2⟩ = r) := ⟨_, Lib.hid rfl⟩
  have HRR := Lib.hid (E.sameB_self ⟨s1, x1, y1, z1, es1⟩)
  have hrr : (r != r) = false := by cases r <;> rfl
  have hrq : (r == r) = true := by cases r <;> rfl
  go_wp2
  go_region_held3 (fun w' => BB w w.heap.size (w.heap.size + 1) s1 x1 y1 z1 (.slice a1 es1.length c1) s2 x2 y2 z2 (.slice a2 es2.length c2) w')
    (first | assumption | exact BB_drew (by assumption) | exact BB_call (by assumption) (by assumption))
    (first
      | (go_at_call 22; with_reducible refine (ESame_bk ⟨s1, x1, y1, z1, es1⟩ ⟨s2, x2, y2, z2, es2⟩ _ _ r (BB_below (by assumption)) HV1 HV2 HL1 HL2 HR).mono ?_; rintro x w4 ⟨rfl, hb4⟩)
      | (go_at_call 21; with_reducible refine (sameBatch_bk ⟨s1, x1, y1, z1, es1⟩ ⟨s2, x2, y2, z2, es2⟩ _ _ r (BB_below (by assumption)) HV1 HV2 HL1 HR).mono ?_; rintro x w5 ⟨rfl, hb5⟩)
      | (go_at_call 22; with_reducible refine (ESame_bk ⟨s1, x1, y1, z1, es1⟩ ⟨s1, x1, y1, z1, es1⟩ _ _ true (BB_below (by assumption)) HV1 HV1 HL1 HL1 HRR).mono ?_; rintro x w6 ⟨rfl, hb6⟩))
  rename_i hHeld
  clear hS
  obtain ⟨fa, HFA⟩ : ∃ fa, Hid (E.fits ⟨s1, x1, y1, z1, es1⟩ = fa) := ⟨_, Lib.hid rfl⟩
  obtain ⟨fb, HFB⟩ : ∃ fb, Hid (E.fits ⟨s2, x2, y2, z2, es2⟩ = fb) := ⟨_, Lib.hid rfl⟩
  obtain ⟨pa, HPA⟩ : ∃ pa, Hid (E.putBat ⟨s1, x1, y1, z1, es1⟩ = pa) := ⟨_, Lib.hid rfl⟩
  by_cases hfa : fa = 0
  · subst hfa
    by_cases hfb : fb = 0
    · subst hfb
      have HPA2 := Lib.hid (show E.bytes ⟨s1, x1, y1, z1, es1⟩ = pa by rw [← E.putBat_ok HFA.out]; exact HPA.out)
      by_cases hpp : E.putBat ⟨s2, x2, y2, z2, es2⟩ = pa
      · have HPB := Lib.hid hpp
        have hrt : r = true := by
          rw [← HR.out]
          refine E.sameB_iff.2 (E.bytes_inj HFA.out HFB.out ?_)
          rw [HPA2.out, ← E.putBat_ok HFB.out]; exact hpp.symm
        subst hrt
        clear hpp HPA2
        go_wp2
        go_region_held3 (fun w' => BB w w.heap.size (w.heap.size + 1) s1 x1 y1 z1 (.slice a1 es1.length c1) s2 x2 y2 z2 (.slice a2 es2.length c2) w')
    (first | assumption | exact BB_drew (by assumption) | exact BB_call (by assumption) (by assumption))
          (first
      | (go_at_call 15; with_reducible refine (Fits_bk ⟨s1, x1, y1, z1, es1⟩ _ 0 (BB_below (by assumption)) HV1 HL1 HFA).mono ?_; rintro x w11 ⟨rfl, hb11⟩)
      | (go_at_call 15; with_reducible refine (Fits_bk ⟨s2, x2, y2, z2, es2⟩ _ 0 (BB_below (by assumption)) HV2 HL2 HFB).mono ?_; rintro x w12 ⟨rfl, hb12⟩)
      | (go_at_call 22; with_reducible refine (ESame_bk ⟨s1, x1, y1, z1, es1⟩ ⟨s2, x2, y2, z2, es2⟩ _ _ true (BB_below (by assumption)) HV1 HV2 HL1 HL2 HR).mono ?_; rintro x w13 ⟨rfl, hb13⟩)
      | (go_at_call 17; with_reducible refine (EPutBat_bk ⟨s1, x1, y1, z1, es1⟩ _ pa (BB_below (by assumption)) HV1 HL1 HPA).mono ?_; rintro x w14 ⟨rfl, hb14⟩)
      | (go_at_call 17; with_reducible refine (EPutBat_bk ⟨s2, x2, y2, z2, es2⟩ _ pa (BB_below (by assumption)) HV2 HL2 HPB).mono ?_; rintro x w15 ⟨rfl, hb15⟩))
        rename_i hHeld2
        have HK2 := Lib.hid (BB_below hHeld2)
        clear hHeld2
        go_wp2
        go_ret
        exact ⟨rfl, HK2.out⟩
      · obtain ⟨pb, HPB⟩ : ∃ pb, Hid (E.putBat ⟨s2, x2, y2, z2, es2⟩ = pb) := ⟨_, Lib.hid rfl⟩
        rw [HPB.out] at hpp
        have hrf : r = false := by
          rw [← HR.out]
          cases hs : E.sameB ⟨s1, x1, y1, z1, es1⟩ ⟨s2, x2, y2, z2, es2⟩
          · rfl
          · exact absurd (by rw [← HPB.out, ← HPA.out, E.sameB_iff.1 hs]) hpp
        subst hrf
        have hpq : (pa == pb) = false := beq_eq_false_iff_ne.2 fun h => hpp h.symm
        clear hpp HPA2
        go_wp2
        go_region_held3 (fun w' => BB w w.heap.size (w.heap.size + 1) s1 x1 y1 z1 (.slice a1 es1.length c1) s2 x2 y2 z2 (.slice a2 es2.length c2) w')
    (first | assumption | exact BB_drew (by assumption) | exact BB_call (by assumption) (by assumption))
          (first
      | (go_at_call 15; with_reducible refine (Fits_bk ⟨s1, x1, y1, z1, es1⟩ _ 0 (BB_below (by assumption)) HV1 HL1 HFA).mono ?_; rintro x w11 ⟨rfl, hb11⟩)
      | (go_at_call 15; with_reducible refine (Fits_bk ⟨s2, x2, y2, z2, es2⟩ _ 0 (BB_below (by assumption)) HV2 HL2 HFB).mono ?_; rintro x w12 ⟨rfl, hb12⟩)
      | (go_at_call 22; with_reducible refine (ESame_bk ⟨s1, x1, y1, z1, es1⟩ ⟨s2, x2, y2, z2, es2⟩ _ _ false (BB_below (by assumption)) HV1 HV2 HL1 HL2 HR).mono ?_; rintro x w13 ⟨rfl, hb13⟩)
      | (go_at_call 17; with_reducible refine (EPutBat_bk ⟨s1, x1, y1, z1, es1⟩ _ pa (BB_below (by assumption)) HV1 HL1 HPA).mono ?_; rintro x w14 ⟨rfl, hb14⟩)
      | (go_at_call 17; with_reducible refine (EPutBat_bk ⟨s2, x2, y2, z2, es2⟩ _ pb (BB_below (by assumption)) HV2 HL2 HPB).mono ?_; rintro x w15 ⟨rfl, hb15⟩))
        rename_i hHeld2
        have HK2 := Lib.hid (BB_below hHeld2)
        clear hHeld2
        go_wp2
        go_ret
        exact ⟨rfl, HK2.out⟩
    · have hfi : ((fb : Int) == 0) = false := beq_eq_false_iff_ne.2 (by omega)
      have hfb2 : ((fb : Int) != 0) = true := bne_iff_ne.2 (by omega)
      have hHeld0 := hHeld
      clear hHeld
      go_wp2
      refine wp_region_held_drew (S := fun w' => BB w w.heap.size (w.heap.size + 1) s1 x1 y1 z1 (.slice a1 es1.length c1) s2 x2 y2 z2 (.slice a2 es2.length c2) w') (by kernel_rfl) ?_ (fun hHeld => ?_)
      · exact BB_drew hHeld0
      refine take_wanted (i := 0) (v := ?_) rfl (by kernel_rfl) (by kernel_rfl) (by kernel_rfl) (fun _ _ _ h => h) (by rfl) ?_ (by assumption) ?_
      rotate_left
      · intro w hSw
        (try dsimp only at hSw)
        go_simp
        (try with_reducible rfl)
      simp only [Act.put, List.setIfInBounds_toArray, List.set_cons_zero, List.set_cons_succ]
      refine take_only (i := 1) (by kernel_rfl) rfl (by rfl) (fun K hK => ?_)
      go_simp
      go_at_call 15
      refine (Fits_bk ⟨s1, x1, y1, z1, es1⟩ _ 0 (BB_below hHeld) HV1 HL1 HFA).mono ?_
      rintro x w11 ⟨rfl, hb11⟩
      refine hK.out _ _ ?_ (fun hHeld => ?_)
      · exact BB_call (by assumption) hb11
      clear hK K
      refine take_wanted (i := 2) (v := ?_) rfl (by kernel_rfl) (by kernel_rfl) (by kernel_rfl) (fun _ _ _ h => h) (by rfl) ?_ (by assumption) ?_
      rotate_left
      · intro w hSw
        (try dsimp only at hSw)
        go_simp
        (try with_reducible rfl)
      simp only [Act.put, List.setIfInBounds_toArray, List.set_cons_zero, List.set_cons_succ]
      refine take_wanted (i := 3) (v := ?_) rfl (by kernel_rfl) (by kernel_rfl) (by kernel_rfl) (fun _ _ _ h => h) (by rfl) ?_ (by assumption) ?_
      rotate_left
      · intro w hSw
        (try dsimp only at hSw)
        go_simp
        (try with_reducible rfl)
      simp only [Act.put, List.setIfInBounds_toArray, List.set_cons_zero, List.set_cons_succ]
      refine take_wanted (i := 4) (v := ?_) rfl (by kernel_rfl) (by kernel_rfl) (by kernel_rfl) (fun _ _ _ h => h) (by rfl) ?_ (by assumption) ?_
      rotate_left
      · intro w hSw
        (try dsimp only at hSw)
        go_simp
        (try with_reducible rfl)
      simp only [Act.put, List.setIfInBounds_toArray, List.set_cons_zero, List.set_cons_succ]
      refine take_only (i := 5) (by kernel_rfl) rfl (by rfl) (fun K hK => ?_)
      go_simp
      go_at_call 15
      refine (Fits_bk ⟨s2, x2, y2, z2, es2⟩ _ fb (BB_below hHeld) HV2 HL2 HFB).mono ?_
      rintro x w12 ⟨rfl, hb12⟩
      refine hK.out _ _ ?_ (fun hHeld => ?_)
      · exact BB_call (by assumption) hb12
      clear hK K
      refine take_wanted (i := 6) (v := ?_) rfl (by kernel_rfl) (by kernel_rfl) (by kernel_rfl) (fun _ _ _ h => h) (by rfl) ?_ (by assumption) ?_
      rotate_left
      · intro w hSw
        (try dsimp only at hSw)
        go_simp
        (try with_reducible rfl)
      simp only [Act.put, List.setIfInBounds_toArray, List.set_cons_zero, List.set_cons_succ]
      refine take_wanted (i := 7) (v := ?_) rfl (by kernel_rfl) (by kernel_rfl) (by kernel_rfl) (fun _ _ _ h => h) (by rfl) ?_ (by assumption) ?_
      rotate_left
      · intro w hSw
        (try dsimp only at hSw)
        go_simp
        (try with_reducible rfl)
      simp only [Act.put, List.setIfInBounds_toArray, List.set_cons_zero, List.set_cons_succ]
      refine take_wanted (i := 8) (v := ?_) rfl (by kernel_rfl) (by kernel_rfl) (by kernel_rfl) (fun _ _ _ h => h) (by rfl) ?_ (by assumption) ?_
      rotate_left
      · intro w hSw
        (try dsimp only at hSw)
        go_simp
        (try with_reducible rfl)
      simp only [Act.put, List.setIfInBounds_toArray, List.set_cons_zero, List.set_cons_succ]
      refine take_passed (i := 9) rfl (by kernel_rfl) (by kernel_rfl) (by kernel_rfl) (fun _ _ _ h => h) (by rfl) (by assumption) ?_
      simp only [Act.put, List.setIfInBounds_toArray, List.set_cons_zero, List.set_cons_succ]
      refine take_passed (i := 10) rfl (by kernel_rfl) (by kernel_rfl) (by kernel_rfl) (fun _ _ _ h => h) (by rfl) (by assumption) ?_
      simp only [Act.put, List.setIfInBounds_toArray, List.set_cons_zero, List.set_cons_succ]
      refine take_passed (i := 11) rfl (by kernel_rfl) (by kernel_rfl) (by kernel_rfl) (fun _ _ _ h => h) (by rfl) (by assumption) ?_
      simp only [Act.put, List.setIfInBounds_toArray, List.set_cons_zero, List.set_cons_succ]
      refine take_passed (i := 12) rfl (by kernel_rfl) (by kernel_rfl) (by kernel_rfl) (fun _ _ _ h => h) (by rfl) (by assumption) ?_
      simp only [Act.put, List.setIfInBounds_toArray, List.set_cons_zero, List.set_cons_succ]
      refine take_passed (i := 13) rfl (by kernel_rfl) (by kernel_rfl) (by kernel_rfl) (fun _ _ _ h => h) (by rfl) (by assumption) ?_
      simp only [Act.put, List.setIfInBounds_toArray, List.set_cons_zero, List.set_cons_succ]
      refine take_passed (i := 14) rfl (by kernel_rfl) (by kernel_rfl) (by kernel_rfl) (fun _ _ _ h => h) (by rfl) (by assumption) ?_
      simp only [Act.put, List.setIfInBounds_toArray, List.set_cons_zero, List.set_cons_succ]
      refine take_passed (i := 15) rfl (by kernel_rfl) (by kernel_rfl) (by kernel_rfl) (fun _ _ _ h => h) (by rfl) (by assumption) ?_
      simp only [Act.put, List.setIfInBounds_toArray, List.set_cons_zero, List.set_cons_succ]
      refine take_passed (i := 16) rfl (by kernel_rfl) (by kernel_rfl) (by kernel_rfl) (fun _ _ _ h => h) (by rfl) (by assumption) ?_
      simp only [Act.put, List.setIfInBounds_toArray, List.set_cons_zero, List.set_cons_succ]
      refine take_passed (i := 17) rfl (by kernel_rfl) (by kernel_rfl) (by kernel_rfl) (fun _ _ _ h => h) (by rfl) (by assumption) ?_
      simp only [Act.put, List.setIfInBounds_toArray, List.set_cons_zero, List.set_cons_succ]
      refine take_wanted (i := 18) (v := ?_) rfl (by kernel_rfl) (by kernel_rfl) (by kernel_rfl) (fun _ _ _ h => h) (by rfl) ?_ (by assumption) ?_
      rotate_left
      · intro w hSw
        (try dsimp only at hSw)
        go_simp
        (try with_reducible rfl)
      simp only [Act.put, List.setIfInBounds_toArray, List.set_cons_zero, List.set_cons_succ]
      refine take_wanted (i := 19) (v := ?_) rfl (by kernel_rfl) (by kernel_rfl) (by kernel_rfl) (fun _ _ _ h => h) (by rfl) ?_ (by assumption) ?_
      rotate_left
      · intro w hSw
        (try dsimp only at hSw)
        go_simp
        (try with_reducible rfl)
      simp only [Act.put, List.setIfInBounds_toArray, List.set_cons_zero, List.set_cons_succ]
      refine wpAnyH_done (by kernel_rfl) ?_ _
      have HK2 := Lib.hid (BB_below hHeld)
      clear hHeld
      go_wp2
      go_ret
      exact ⟨rfl, HK2.out⟩
  · have hfi : ((fa : Int) == 0) = false := beq_eq_false_iff_ne.2 (by omega)
    have hfa2 : ((fa : Int) != 0) = true := bne_iff_ne.2 (by omega)
    have hHeld0 := hHeld
    clear hHeld
    go_wp2
    refine wp_region_held_drew (S := fun w' => BB w w.heap.size (w.heap.size + 1) s1 x1 y1 z1 (.slice a1 es1.length c1) s2 x2 y2 z2 (.slice a2 es2.length c2) w') (by kernel_rfl) ?_ (fun hHeld => ?_)
    · exact BB_drew hHeld0
    refine take_wanted (i := 0) (v := ?_) rfl (by kernel_rfl) (by kernel_rfl) (by kernel_rfl) (fun _ _ _ h => h) (by rfl) ?_ (by assumption) ?_
    rotate_left
    · intro w hSw
      (try dsimp only at hSw)
      go_simp
      (try with_reducible rfl)
    simp only [Act.put, List.setIfInBounds_toArray, List.set_cons_zero, List.set_cons_succ]
    refine take_only (i := 1) (by kernel_rfl) rfl (by rfl) (fun K hK => ?_)
    go_simp
    go_at_call 15
    refine (Fits_bk ⟨s1, x1, y1, z1, es1⟩ _ fa (BB_below hHeld) HV1 HL1 HFA).mono ?_
    rintro x w11 ⟨rfl, hb11⟩
    refine hK.out _ _ ?_ (fun hHeld => ?_)
    · exact BB_call (by assumption) hb11
    clear hK K
    refine take_wanted (i := 2) (v := ?_) rfl (by kernel_rfl) (by kernel_rfl) (by kernel_rfl) (fun _ _ _ h => h) (by rfl) ?_ (by assumption) ?_
    rotate_left
    · intro w hSw
      (try dsimp only at hSw)
      go_simp
      (try with_reducible rfl)
    simp only [Act.put, List.setIfInBounds_toArray, List.set_cons_zero, List.set_cons_succ]
    refine take_wanted (i := 3) (v := ?_) rfl (by kernel_rfl) (by kernel_rfl) (by kernel_rfl) (fun _ _ _ h => h) (by rfl) ?_ (by assumption) ?_
    rotate_left
    · intro w hSw
      (try dsimp only at hSw)
      go_simp
      (try with_reducible rfl)
    simp only [Act.put, List.setIfInBounds_toArray, List.set_cons_zero, List.set_cons_succ]
    refine take_passed (i := 4) rfl (by kernel_rfl) (by kernel_rfl) (by kernel_rfl) (fun _ _ _ h => h) (by rfl) (by assumption) ?_
    simp only [Act.put, List.setIfInBounds_toArray, List.set_cons_zero, List.set_cons_succ]
    refine take_passed (i := 5) rfl (by kernel_rfl) (by kernel_rfl) (by kernel_rfl) (fun _ _ _ h => h) (by rfl) (by assumption) ?_
    simp only [Act.put, List.setIfInBounds_toArray, List.set_cons_zero, List.set_cons_succ]
    refine take_passed (i := 6) rfl (by kernel_rfl) (by kernel_rfl) (by kernel_rfl) (fun _ _ _ h => h) (by rfl) (by assumption) ?_
    simp only [Act.put, List.setIfInBounds_toArray, List.set_cons_zero, List.set_cons_succ]
    refine take_wanted (i := 7) (v := ?_) rfl (by kernel_rfl) (by kernel_rfl) (by kernel_rfl) (fun _ _ _ h => h) (by rfl) ?_ (by assumption) ?_
    rotate_left
    · intro w hSw
      (try dsimp only at hSw)
      go_simp
      (try with_reducible rfl)
    simp only [Act.put, List.setIfInBounds_toArray, List.set_cons_zero, List.set_cons_succ]
    refine take_wanted (i := 8) (v := ?_) rfl (by kernel_rfl) (by kernel_rfl) (by kernel_rfl) (fun _ _ _ h => h) (by rfl) ?_ (by assumption) ?_
    rotate_left
    · intro w hSw
      (try dsimp only at hSw)
      go_simp
      (try with_reducible rfl)
    simp only [Act.put, List.setIfInBounds_toArray, List.set_cons_zero, List.set_cons_succ]
    refine take_passed (i := 9) rfl (by kernel_rfl) (by kernel_rfl) (by kernel_rfl) (fun _ _ _ h => h) (by rfl) (by assumption) ?_
    simp only [Act.put, List.setIfInBounds_toArray, List.set_cons_zero, List.set_cons_succ]
    refine take_passed (i := 10) rfl (by kernel_rfl) (by kernel_rfl) (by kernel_rfl) (fun _ _ _ h => h) (by rfl) (by assumption) ?_
    simp only [Act.put, List.setIfInBounds_toArray, List.set_cons_zero, List.set_cons_succ]
    refine take_passed (i := 11) rfl (by kernel_rfl) (by kernel_rfl) (by kernel_rfl) (fun _ _ _ h => h) (by rfl) (by assumption) ?_
    simp only [Act.put, List.setIfInBounds_toArray, List.set_cons_zero, List.set_cons_succ]
    refine take_passed (i := 12) rfl (by kernel_rfl) (by kernel_rfl) (by kernel_rfl) (fun _ _ _ h => h) (by rfl) (by assumption) ?_
    simp only [Act.put, List.setIfInBounds_toArray, List.set_cons_zero, List.set_cons_succ]
    refine take_passed (i := 13) rfl (by kernel_rfl) (by kernel_rfl) (by kernel_rfl) (fun _ _ _ h => h) (by rfl) (by assumption) ?_
    simp only [Act.put, List.setIfInBounds_toArray, List.set_cons_zero, List.set_cons_succ]
    refine take_passed (i := 14) rfl (by kernel_rfl) (by kernel_rfl) (by kernel_rfl) (fun _ _ _ h => h) (by rfl) (by assumption) ?_
    simp only [Act.put, List.setIfInBounds_toArray, List.set_cons_zero, List.set_cons_succ]
    refine take_passed (i := 15) rfl (by kernel_rfl) (by kernel_rfl) (by kernel_rfl) (fun _ _ _ h => h) (by rfl) (by assumption) ?_
    simp only [Act.put, List.setIfInBounds_toArray, List.set_cons_zero, List.set_cons_succ]
    refine take_passed (i := 16) rfl (by kernel_rfl) (by kernel_rfl) (by kernel_rfl) (fun _ _ _ h => h) (by rfl) (by assumption) ?_
    simp only [Act.put, List.setIfInBounds_toArray, List.set_cons_zero, List.set_cons_succ]
    refine take_passed (i := 17) rfl (by kernel_rfl) (by kernel_rfl) (by kernel_rfl) (fun _ _ _ h => h) (by rfl) (by assumption) ?_
    simp only [Act.put, List.setIfInBounds_toArray, List.set_cons_zero, List.set_cons_succ]
    refine take_wanted (i := 18) (v := ?_) rfl (by kernel_rfl) (by kernel_rfl) (by kernel_rfl) (fun _ _ _ h => h) (by rfl) ?_ (by assumption) ?_
    rotate_left
    · intro w hSw
      (try dsimp only at hSw)
      go_simp
      (try with_reducible rfl)
    simp only [Act.put, List.setIfInBounds_toArray, List.set_cons_zero, List.set_cons_succ]
    refine take_wanted (i := 19) (v := ?_) rfl (by kernel_rfl) (by kernel_rfl) (by kernel_rfl) (fun _ _ _ h => h) (by rfl) ?_ (by assumption) ?_
    rotate_left
    · intro w hSw
      (try dsimp only at hSw)
      go_simp
      (try with_reducible rfl)
    simp only [Act.put, List.setIfInBounds_toArray, List.set_cons_zero, List.set_cons_succ]
    refine wpAnyH_done (by kernel_rfl) ?_ _
    have HK2 := Lib.hid (BB_below hHeld)
    clear hHeld
    go_wp2
    go_ret
    exact ⟨rfl, HK2.out⟩

set_option maxRecDepth 100000 in
theorem eventSames_lifted (os : Os) (started : os.Started) (H : Type) (enc : TypeId × Value → H) :
    ReturnsInHanded {} Try.checked os 6 .any (Rows.eventSamesSpec.pre6 enc Try.prog Try.f6 Rows.eventSamesRow.domain false) (Rows.eventSamesSpec.post enc Try.prog Try.f6 false true false false) := by
  refine returnsInHanded_of_change (C := Try.checked) eventSames_own started (by kernel_rfl) Try.func6
    (ChangeSpec.witness6 (enc := enc) (C := Try.checked) false ⟨#[], #[.agg #[.string ByteArray.empty, .int .i64 0, .int .i64 0, .int .i64 0, .slice none 0 0], .agg #[.string ByteArray.empty, .int .i64 0, .int .i64 0, .int .i64 0, .slice none 0 0]], []⟩ 8 (by kernel_rfl) (by kernel_rfl) (by kernel_rfl) (by kernel_rfl)) ?_
  intro W base args ds gs before hval0 hW _ _
  have hval : ∀ (j : Nat) t v, Try.f6.params[j]? = some t → args[j]? = some v → Value.okWide Try.prog W .any base t v := hval0
  have hW' := hW
  obtain ⟨p, q, hA0, hV, rfl, hfz, hnd⟩ := hW
  have hA : DataW.TrodAll enc Try.prog W 0 (fun _ => true) true Try.f6.params.toList args.toList ds p := hA0
  rw [Try.params6] at hA hval
  obtain ⟨v0, vs0, d0, ds0, p0, q0, hargs, rfl, rfl, h0, r0⟩ := trodAll_cons hA
  obtain ⟨v1, vs1, d1, ds1, p1, q1, rfl, rfl, rfl, h1, r1⟩ := trodAll_cons r0
  obtain ⟨rfl, rfl, rfl⟩ := trodAll_nil r1
  obtain rfl : args = #[v0, v1] := by cases args; simp_all
  obtain ⟨rfl, rfl⟩ := trodVars_none hV
  have k0 := h0
  have lt0 : ∀ x ∈ p0, x.block < W.heap.size := by obtain ⟨m, hm⟩ := k0; exact DataW.trod_lt m _ _ _ hm
  obtain ⟨b0, u0, rfl, w0, _⟩ := arg_batch Try.underlying26 (by kernel_rfl) (by kernel_rfl) Try.underlying9 Try.underlying3 Try.underlying3 Try.underlying3 rfl Try.underlying24 Try.underlying23 (by kernel_rfl) (by kernel_rfl) Try.underlying9 Try.underlying9 (hval 0 26 v0 rfl rfl) h0
  have k1 := h1
  have lt1 : ∀ x ∈ p1, x.block < W.heap.size := by obtain ⟨m, hm⟩ := k1; exact DataW.trod_lt m _ _ _ hm
  obtain ⟨b1, u1, rfl, w1, _⟩ := arg_batch Try.underlying26 (by kernel_rfl) (by kernel_rfl) Try.underlying9 Try.underlying3 Try.underlying3 Try.underlying3 rfl Try.underlying24 Try.underlying23 (by kernel_rfl) (by kernel_rfl) Try.underlying9 Try.underlying9 (hval 1 26 v1 rfl rfl) h1
  clear hA0 hval0
  refine (eventSames_walk b0 u0 b1 u1 W w0 w1).mono fun e W' ⟨he, bel⟩ => ?_
  subst he
  exact ⟨_, rfl, _, _, _, [], _, [], hW', trodAll_mk1 (shut_bool Try.underlying4 _), (trodAll_cons_mk (Below.trod eventSames_laid (by kernel_rfl) (of_decide_eq_true (by kernel_rfl)) k0 bel lt0) (trodAll_cons_mk (Below.trod eventSames_laid (by kernel_rfl) (of_decide_eq_true (by kernel_rfl)) k1 bel lt1) trodAll_mk0)), rfl, bel.frame _, fun h => by cases h⟩

theorem eventSames_holds : Rows.EventSamesSaid :=
  OpenClaim.holds_of_wide 6 Try.f6 rfl rfl rfl rfl rfl rfl rfl ⟨rfl, rfl, rfl, rfl, rfl⟩ rfl rfl rfl rfl rfl (by kernel_rfl) Try.func6 (by kernel_rfl)
    (of_decide_eq_true (by kernel_rfl)) (by unfold Func.isWrapper; first | (rw [if_pos (by decide +kernel)]; kernel_rfl) | (rw [if_neg (by decide +kernel)]; exact ⟨rfl, rfl⟩))
    (fun os started H enc _ => eventSames_lifted os started H enc)
#print axioms eventSames_holds

end Go.Proofs.Ytjjefdfjmkbbiaa
