/-
  Walk of shown of the statements' package: the chapter's examples.
-/
import Derived.Test.YtfhopgficckjkaaRecordPlain
import Derived.Test.YtfhopgficckjkaaRecordFork
import Derived.Test.YtfhopgficckjkaaRecordRefFork
namespace Go.Proofs.Ytfhopgficckjkaa
open Go.RowKit
attribute [local go_sem] ext_Bd ext_Bl ext_Bt toList_B add_B size_B get_Bt

theorem two_marks {W : World} {g : Nat} {a b c d : Int} {t : TypeId} (h : W.heap[g]? = some (.cells #[.int .i64 a, .int .i64 b, .int .i64 c, .int .i64 d] t (0, 0))) : ReadsM W (.slice (some ⟨g, 0, none⟩) 2 2) [(a, b), (c, d)] := by
  refine ⟨_, 2, rfl, Nat.le_refl _, fun h => (by cases h), fun i hi => ?_⟩
  match i, hi with
  | 0, _ => exact ⟨g, 0, rfl, by simp [World.cell?, h], by simp [World.cell?, h]⟩
  | 1, _ => exact ⟨g, 0, rfl, by simp [World.cell?, h], by simp [World.cell?, h]⟩
theorem pl_at {W : World} {g : Nat} {cs : Array Value} {t : TypeId} {p e : Int} {v : Value} {o : Nat} (h : W.heap[g]? = some (.cells cs t (0, 0))) (h0 : cs[o]? = some (.int .i64 p)) (h1 : cs[o + 1]? = some (.int .i64 e)) (h2 : cs[o + 2]? = some (.string (B [115]))) (h3 : cs[o + 3]? = some (.int .i64 0)) (h4 : cs[o + 4]? = some (.int .i64 1)) (h5 : cs[o + 5]? = some (.int .i64 1)) (h6 : cs[o + 6]? = some v) :
    At7 W g o (plainE p e) v := by
  have key : ∀ j, W.cell? ⟨g, j, none⟩ = cs[j]? := fun j => by simp [World.cell?, h]
  exact ⟨(key _).trans h0, (key _).trans h1, (key _).trans h2, (key _).trans h3, (key _).trans h4, (key _).trans h5, (key _).trans h6⟩

set_option maxHeartbeats 4000000 in
set_option maxRecDepth 100000 in
theorem shown_l (w : World) : Calls Try.prog 9 #[] w fun r w' => r = .returned (.bool true) ∧ Below w.heap.size w w' := by
  go_enter Try.func9, Try.ntmps9
  go_wp2_with fail
  have hA : ((w.alloc (.cells #[.int .i64 1, .int .i64 1, .int .i64 2, .int .i64 4] 52)).alloc (.cells #[.int .i64 1, .int .i64 1, .int .i64 3, .int .i64 5] 52)).heap[w.heap.size]? = some (.cells #[.int .i64 1, .int .i64 1, .int .i64 2, .int .i64 4] 52 (0, 0)) := by
    rw [Below.heap_alloc _ _ _ (by simp)]; exact heap_alloc_new w _
  have hB : ((w.alloc (.cells #[.int .i64 1, .int .i64 1, .int .i64 2, .int .i64 4] 52)).alloc (.cells #[.int .i64 1, .int .i64 1, .int .i64 3, .int .i64 5] 52)).heap[w.heap.size + 1]? = some (.cells #[.int .i64 1, .int .i64 1, .int .i64 3, .int .i64 5] 52 (0, 0)) := by
    have := heap_alloc_new (w.alloc (.cells #[.int .i64 1, .int .i64 1, .int .i64 2, .int .i64 4] 52)) (.cells #[.int .i64 1, .int .i64 1, .int .i64 3, .int .i64 5] 52); rwa [World.size_alloc] at this
  have HB0 : Hid (Below w.heap.size w ((w.alloc (.cells #[.int .i64 1, .int .i64 1, .int .i64 2, .int .i64 4] 52)).alloc (.cells #[.int .i64 1, .int .i64 1, .int .i64 3, .int .i64 5] 52))) := Lib.hid (((Below.refl _ w).alloc (Nat.le_refl _) _).alloc (by simp) _)
  generalize (w.alloc (.cells #[.int .i64 1, .int .i64 1, .int .i64 2, .int .i64 4] 52)).alloc (.cells #[.int .i64 1, .int .i64 1, .int .i64 3, .int .i64 5] 52) = W at *
  have HMA := Lib.hid (two_marks hA)
  have HMB := Lib.hid (two_marks hB)
  clear hA hB
  refine (plain_l 1 1 W).mono ?_
  rintro x w1 ⟨g1, rfl, hr1, hb1⟩
  have HB1 := Lib.hid hb1; have HR1 := Lib.hid hr1; clear hb1 hr1
  go_wp2_with fail
  refine (plain_l 2 1 w1).mono ?_
  rintro x w2 ⟨g2, rfl, hr2, hb2⟩
  have HB2 := Lib.hid hb2; have HR2 := Lib.hid hr2; clear hb2 hr2
  go_wp2_with fail
  refine (plain_l 3 2 w2).mono ?_
  rintro x w3 ⟨g3, rfl, hr3, hb3⟩
  have HB3 := Lib.hid hb3; have HR3 := Lib.hid hr3; clear hb3 hr3
  dsimp only [enV, plainE]
  go_wp2_with fail
  have hb01 := HB0.out.trans (HB1.out.mono HB0.out.size)
  have hb02 := hb01.trans (HB2.out.mono hb01.size)
  have hb03 := hb02.trans (HB3.out.mono hb02.size)
  have hb13 := HB2.out.trans (HB3.out.mono HB2.out.size)
  have HB4 : Hid (Below w.heap.size w (w3.alloc (.cells #[.int .i64 1, .int .i64 1, .string (B [115]), .int .i64 0, .int .i64 1, .int .i64 1, .slice (some ⟨g1, 0, none⟩) 1 1, .int .i64 2, .int .i64 1, .string (B [115]), .int .i64 0, .int .i64 1, .int .i64 1, .slice (some ⟨g2, 0, none⟩) 1 1, .int .i64 3, .int .i64 2, .string (B [115]), .int .i64 0, .int .i64 1, .int .i64 1, .slice (some ⟨g3, 0, none⟩) 1 1] 26))) := Lib.hid (hb03.alloc hb03.size _)
  have HW4 : Hid (Below W.heap.size W (w3.alloc (.cells #[.int .i64 1, .int .i64 1, .string (B [115]), .int .i64 0, .int .i64 1, .int .i64 1, .slice (some ⟨g1, 0, none⟩) 1 1, .int .i64 2, .int .i64 1, .string (B [115]), .int .i64 0, .int .i64 1, .int .i64 1, .slice (some ⟨g2, 0, none⟩) 1 1, .int .i64 3, .int .i64 2, .string (B [115]), .int .i64 0, .int .i64 1, .int .i64 1, .slice (some ⟨g3, 0, none⟩) 1 1] 26))) := Lib.hid (by
    have h1 := HB1.out.trans (hb13.mono HB1.out.size)
    exact h1.alloc h1.size _)
  have HRR : Hid (ReadsR (w3.alloc (.cells #[.int .i64 1, .int .i64 1, .string (B [115]), .int .i64 0, .int .i64 1, .int .i64 1, .slice (some ⟨g1, 0, none⟩) 1 1, .int .i64 2, .int .i64 1, .string (B [115]), .int .i64 0, .int .i64 1, .int .i64 1, .slice (some ⟨g2, 0, none⟩) 1 1, .int .i64 3, .int .i64 2, .string (B [115]), .int .i64 0, .int .i64 1, .int .i64 1, .slice (some ⟨g3, 0, none⟩) 1 1] 26)) (.slice (some ⟨w3.heap.size, 0, none⟩) 3 3) [(plainE 1 1, .slice (some ⟨g1, 0, none⟩) 1 1), (plainE 2 1, .slice (some ⟨g2, 0, none⟩) 1 1), (plainE 3 2, .slice (some ⟨g3, 0, none⟩) 1 1)]) := Lib.hid (by
    have hh := heap_alloc_new w3 (.cells #[.int .i64 1, .int .i64 1, .string (B [115]), .int .i64 0, .int .i64 1, .int .i64 1, .slice (some ⟨g1, 0, none⟩) 1 1, .int .i64 2, .int .i64 1, .string (B [115]), .int .i64 0, .int .i64 1, .int .i64 1, .slice (some ⟨g2, 0, none⟩) 1 1, .int .i64 3, .int .i64 2, .string (B [115]), .int .i64 0, .int .i64 1, .int .i64 1, .slice (some ⟨g3, 0, none⟩) 1 1] 26)
    have ha : Below w3.heap.size w3 (w3.alloc (.cells #[.int .i64 1, .int .i64 1, .string (B [115]), .int .i64 0, .int .i64 1, .int .i64 1, .slice (some ⟨g1, 0, none⟩) 1 1, .int .i64 2, .int .i64 1, .string (B [115]), .int .i64 0, .int .i64 1, .int .i64 1, .slice (some ⟨g2, 0, none⟩) 1 1, .int .i64 3, .int .i64 2, .string (B [115]), .int .i64 0, .int .i64 1, .int .i64 1, .slice (some ⟨g3, 0, none⟩) 1 1] 26)) := (Below.refl _ _).alloc (Nat.le_refl _) _
    have q1 := readsE_below (readsE_below HR1.out hb13) ha
    have q2 := readsE_below (readsE_below HR2.out HB3.out) ha
    have q3 := readsE_below HR3.out ha
    refine ⟨_, 3, rfl, Nat.le_refl _, fun h => (by cases h), fun i hi => ?_⟩
    match i, hi with
    | 0, _ => exact ⟨q1, by unfold i64B plainE; simp, _, 0, rfl, pl_at hh rfl rfl rfl rfl rfl rfl rfl⟩
    | 1, _ => exact ⟨q2, by unfold i64B plainE; simp, _, 0, rfl, pl_at hh rfl rfl rfl rfl rfl rfl rfl⟩
    | 2, _ => exact ⟨q3, by unfold i64B plainE; simp, _, 0, rfl, pl_at hh rfl rfl rfl rfl rfl rfl rfl⟩)
  clear hb01 hb02 hb03 hb13 HB0 HB1 HB2 HB3 HR1 HR2 HR3
  generalize w3.alloc (.cells #[.int .i64 1, .int .i64 1, .string (B [115]), .int .i64 0, .int .i64 1, .int .i64 1, .slice (some ⟨g1, 0, none⟩) 1 1, .int .i64 2, .int .i64 1, .string (B [115]), .int .i64 0, .int .i64 1, .int .i64 1, .slice (some ⟨g2, 0, none⟩) 1 1, .int .i64 3, .int .i64 2, .string (B [115]), .int .i64 0, .int .i64 1, .int .i64 1, .slice (some ⟨g3, 0, none⟩) 1 1] 26) = w4 at *
  refine (Marks_l _ _ w4 HRR.out (by simp)).mono ?_
  rintro x w5 ⟨u, rfl, hm5, hb5⟩
  have e5 : R.marks (ensOf [(plainE 1 1, .slice (some ⟨g1, 0, none⟩) 1 1), (plainE 2 1, .slice (some ⟨g2, 0, none⟩) 1 1), (plainE 3 2, .slice (some ⟨g3, 0, none⟩) 1 1)]) = [(1, 1), (2, 3)] := rfl
  rw [e5] at hm5
  have HM5 := Lib.hid hm5
  have HB5 := Lib.hid (HB4.out.trans (hb5.mono HB4.out.size))
  have HW5 := Lib.hid (HW4.out.trans (hb5.mono HW4.out.size))
  obtain ⟨ua, uc, rfl, _⟩ := hm5
  clear e5 hb5 HB4 HW4 HRR
  have e6 : (R.fork [(1, 1), (2, 4)] 6 [(1, 1), (3, 5)] 7 : Nat) = 3 := by decide +kernel
  have HF := Lib.hid (Fork_l [(1, 1), (2, 4)] [(1, 1), (3, 5)] (.slice (some ⟨w.heap.size, 0, none⟩) 2 2) (.slice (some ⟨w.heap.size + 1, 0, none⟩) 2 2) 6 7 w5 (readsM_below HMA.out HW5.out) (readsM_below HMB.out HW5.out) (by decide) (by decide) (by decide) (by decide))
  rw [e6] at HF
  clear e6
  go_wp2_with fail
  refine HF.out.mono ?_
  rintro x w6 ⟨rfl, hb6⟩
  have HB6 := Lib.hid (HB5.out.trans (hb6.mono HB5.out.size))
  have HM6 := Lib.hid (readsM_below HM5.out hb6)
  clear hb6 HF
  go_wp2_with fail
  have HMC : Hid (ReadsM (w6.alloc (.cells #[.int .i64 1, .int .i64 1, .int .i64 2, .int .i64 3] 52)) (.slice (some ⟨w6.heap.size, 0, none⟩) 2 2) [(1, 1), (2, 3)]) := Lib.hid (two_marks (heap_alloc_new w6 _))
  have HMD := Lib.hid (readsM_below HM6.out ((Below.refl _ w6).alloc (Nat.le_refl _) (.cells #[.int .i64 1, .int .i64 1, .int .i64 2, .int .i64 3] 52)))
  have HB7 := Lib.hid (HB6.out.alloc HB6.out.size (.cells #[.int .i64 1, .int .i64 1, .int .i64 2, .int .i64 3] 52))
  generalize w6.alloc (.cells #[.int .i64 1, .int .i64 1, .int .i64 2, .int .i64 3] 52) = w7 at *
  refine (sameMarks_l _ _ _ _ w7 HMD.out HMC.out (by decide) (by decide)).mono ?_
  rintro x w8 ⟨rfl, hq8⟩
  have HB8 := Lib.hid (below_quiet HB7.out hq8)
  clear hq8 HB7 HMC HMD
  rw [decide_eq_true (rfl : ([(1, 1), (2, 3)] : List R.Mk) = [(1, 1), (2, 3)])]
  go_wp2_with fail
  refine (plain_l 1 1 w8).mono ?_
  rintro x w9 ⟨g9, rfl, hr9, hb9⟩
  have HB9 := Lib.hid (HB8.out.trans (hb9.mono HB8.out.size))
  have HR9 := Lib.hid hr9
  clear hb9 hr9
  go_wp2_with fail
  refine (Right6_at (plainE 1 1) _ true w9 HR9.out (plain_small 1 1) (Lib.hid (plain_right (by decide) (by decide) (by decide) (by decide)))).mono ?_
  rintro x w10 ⟨rfl, hb10⟩
  have HB10 := Lib.hid (HB9.out.trans (hb10.mono HB9.out.size))
  clear hb10
  go_wp2
  go_ret
  exact ⟨rfl, HB10.out⟩
end Go.Proofs.Ytfhopgficckjkaa
