/-
  The examples of chapter 3 hold: package bucketlinelaw3's shown returns true.
-/
import Derived.Test.YtikghphgoklkjaaCrcProg
namespace Go.Proofs.Ytikghphgoklkjaa
open Go.RowKit
attribute [local go_sem] ext_Bd ext_Bl ext_Bt toList_B add_B size_B get_Bt

theorem sum_nine : C.upd 0 [49, 50, 51, 52, 53, 54, 55, 56, 57] = 3421780262 := by decide +kernel
theorem sum_none : C.upd 0 [] = 0 := by decide +kernel
theorem sum_a : C.upd 0 [97] = 3904355907 := by decide +kernel
theorem nine_B : (⟨#[49, 50, 51, 52, 53, 54, 55, 56, 57]⟩ : ByteArray) = B [49, 50, 51, 52, 53, 54, 55, 56, 57] := rfl
theorem none_B : (⟨#[]⟩ : ByteArray) = B [] := rfl
theorem a_B : (⟨#[97]⟩ : ByteArray) = B [97] := rfl

set_option maxHeartbeats 1000000 in
set_option maxRecDepth 100000 in
theorem shown3_any (w : World) :
    Calls Try.prog 7 #[] w fun e w' => e = .returned (.bool true) ∧ Below w.heap.size w w' := by
  go_enter Try.func7, Try.ntmps7
  go_wp2_with fail
  rw [nine_B]
  refine (Sum_l _ w (by simp)).mono ?_
  rintro e w1 ⟨rfl, hb1⟩
  rw [sum_nine]
  go_wp2_with fail
  rw [none_B]
  refine (chain (Sum_l _ w1 (by simp)) hb1).mono ?_
  rintro e w2 ⟨rfl, hb2⟩
  rw [sum_none]
  go_wp2_with fail
  rw [a_B]
  refine (chain (Sum_l _ w2 (by simp)) hb2).mono ?_
  rintro e w3 ⟨rfl, hb3⟩
  rw [sum_a]
  go_wp2
  go_ret
  exact ⟨rfl, hb3⟩
end Go.Proofs.Ytikghphgoklkjaa
