/-
  The examples of chapter 5 hold: package bucketlinelaw5's shown returns true.
-/
import Derived.Test.YtjjefdfjmkbbiaaEventProg3
namespace Go.Proofs.Ytjjefdfjmkbbiaa
open Go.RowKit
attribute [local go_sem] ext_Bd ext_Bl ext_Bt toList_B add_B size_B get_Bt

theorem kxy_put : E.putEv ([107], [120, 121]) = [1, 107, 2, 120, 121] := by decide +kernel
theorem s_fits : E.fits ⟨[115], 0, 1, 1, []⟩ = 1 := by decide +kernel
theorem ab_right : E.right ([97, 32, 98], []) = false := by decide +kernel
theorem small_none (st : List UInt8) (ex se sq : Int) (h : st.length ≤ 1000) : E.Small ⟨st, ex, se, sq, []⟩ := ⟨h, by simp, by simp⟩
theorem readsE_nil (w : World) : ReadsE w (.slice none 0 0) [] := ⟨none, 0, rfl, Nat.le_refl _, fun _ => rfl, fun i hi => by simp at hi⟩

set_option maxHeartbeats 2000000 in
set_option maxRecDepth 100000 in
theorem shown5_any (w : World) :
    Calls Try.prog 9 #[] w fun e w' => e = .returned (.bool true) ∧ Below w.heap.size w w' := by
  go_enter Try.func9, Try.ntmps9
  go_wp2_with fail
  refine (EPut_at ([107], [120, 121]) [1, 107, 2, 120, 121] w (by simp) (by simp) (Lib.hid kxy_put)).mono ?_
  rintro x w1 ⟨rfl, hb1⟩
  go_wp2_with fail
  refine (chain (Fits_at ⟨[115], 0, 1, 1, []⟩ (.slice none 0 0) 1 w1 (readsE_nil _) (small_none _ _ _ _ (by simp)) (Lib.hid s_fits)) hb1).mono ?_
  rintro x w2 ⟨rfl, hb2⟩
  go_wp2_with fail
  refine (chain (Right_at ([97, 32, 98], []) false w2 (by simp) (by simp) (Lib.hid ab_right)) hb2).mono ?_
  rintro x w3 ⟨rfl, hb3⟩
  go_wp2
  go_ret
  exact ⟨rfl, hb3⟩
end Go.Proofs.Ytjjefdfjmkbbiaa
