/-
  The walk of shown of package bucketlinelaw2.
-/
import Derived.Test.YtdmkmeohmgfpbaaNumTake2
namespace Go.Proofs.Ytdmkmeohmgfpbaa
open Go.RowKit
attribute [local go_sem] ext_Bd ext_Bl ext_Bt toList_B add_B size_B get_Bt

theorem shown2_a : N.takeL [172, 2, 9] = .ok 300 [9] := by kernel_rfl
theorem shown2_b : N.takeL [128, 0] = .bad 2 := by kernel_rfl
theorem shown2_c : N.takeL [128] = .bad 3 := by kernel_rfl
theorem shown2_d : N.takeT [2, 97] 9 = .bad 3 := by kernel_rfl
theorem shown2_e : N.putL 300 = [172, 2] := by decide +kernel

set_option maxHeartbeats 1000000 in
set_option maxRecDepth 100000 in
theorem shown2_any (w : World) : Calls Try.prog 8 #[] w fun e w' => e = .returned (.bool true) ∧ Below w.heap.size w w' := by
  go_enter Try.func8, Try.ntmps8
  go_wp2_with fail
  refine (Take_l [172, 2, 9] w (by decide)).mono ?_
  rintro e w1 ⟨rfl, hq1⟩
  rw [shown2_a, tkRes_ok]
  have hb1 := below_quiet (Below.refl w.heap.size w) hq1
  clear hq1
  go_wp2_with fail
  refine (Take_l [128, 0] _ (by decide)).mono ?_
  rintro e w2 ⟨rfl, hq2⟩
  rw [shown2_b, tkRes_bad]
  have hb2 := below_quiet hb1 hq2
  clear hq2 hb1
  go_wp2_with fail
  refine (Take_l [128] _ (by decide)).mono ?_
  rintro e w3 ⟨rfl, hq3⟩
  rw [shown2_c, tkRes_bad]
  have hb3 := below_quiet hb2 hq3
  clear hq3 hb2
  go_wp2_with fail
  refine (TakeText_l [2, 97] 9 _ (by decide)).mono ?_
  rintro e w4 ⟨rfl, hq4⟩
  rw [shown2_d, ttRes_bad]
  have hb4 := below_quiet hb3 hq4
  clear hq4 hb3
  go_wp2_with fail
  refine (Put_l 300 _ (by decide)).mono ?_
  rintro e w5 ⟨rfl, hb5⟩
  rw [shown2_e]
  have hb6 := hb4.trans (hb5.mono hb4.size)
  clear hb4 hb5
  go_wp2
  go_ret
  exact ⟨rfl, hb6⟩
end Go.Proofs.Ytdmkmeohmgfpbaa
