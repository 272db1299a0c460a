/-
  The examples of chapter 4 hold: package bucketlinelaw4's shown returns true.
-/
import Derived.Test.YtdphmoldfglhmaaFrameScan2
import Derived.Test.YtdphmoldfglhmaaFrameRow
import Derived.Test.YtdphmoldfglhmaaFrameSame
namespace Go.Proofs.Ytdphmoldfglhmaa
open Go.RowKit
attribute [local go_sem] ext_Bd ext_Bl ext_Bt toList_B add_B size_B get_Bt

theorem abc_B : (⟨#[97, 98, 99]⟩ : ByteArray) = B [97, 98, 99] := rfl
theorem none_B : (⟨#[]⟩ : ByteArray) = B [] := rfl
theorem len_abc : (F.frame [97, 98, 99]).length = 11 := F.frame_len _
theorem rowS_ab : rowS [[97], [98]] = F.frames [[97], [98]] := rowS_ok (by decide +kernel)
theorem codes_ab : F.codes [[97], [98]] = 0 := by decide +kernel
theorem len_ab : (F.frames [[97], [98]]).length = 18 := by decide +kernel
theorem scan_ab : F.scan ((F.frames [[97], [98]]).take 17) = ([[97]], 9) := by decide +kernel
theorem reads_two (w : World) (x y : List UInt8) : Reads (w.alloc (.cells #[.string (B x), .string (B y)] 9)) (.slice (some ⟨w.heap.size, 0, none⟩) 2 2) (strCells [x, y]) := by
  refine ⟨some ⟨w.heap.size, 0, none⟩, 2, rfl, fun i hi => ⟨w.heap.size, 0, rfl, ?_⟩⟩
  rw [Nat.zero_add, World.cell?_alloc_new]
  match i, hi with
  | 0, _ => rfl
  | 1, _ => rfl
theorem reads_one (w : World) (x : List UInt8) : Reads (w.alloc (.cells #[.string (B x)] 9)) (.slice (some ⟨w.heap.size, 0, none⟩) 1 1) (strCells [x]) := by
  refine ⟨some ⟨w.heap.size, 0, none⟩, 1, rfl, fun i hi => ⟨w.heap.size, 0, rfl, ?_⟩⟩
  rw [Nat.zero_add, World.cell?_alloc_new]
  match i, hi with
  | 0, _ => rfl

set_option maxHeartbeats 2000000 in
set_option maxRecDepth 100000 in
theorem shown4_any (w : World) :
    Calls Try.prog 9 #[] w fun e w' => e = .returned (.bool true) ∧ Below w.heap.size w w' := by
  go_enter Try.func9, Try.ntmps9
  go_wp2_with fail
  rw [abc_B]
  refine (Put_ok _ w ⟨by simp, by simp⟩).mono ?_
  rintro e w1 ⟨rfl, hb1⟩
  have h11 := len_abc
  generalize F.frame [97, 98, 99] = s at *
  go_wp2_with fail
  rw [none_B]
  refine (Put_none w1).mono ?_
  rintro e w2 ⟨rfl, rfl⟩
  go_wp2_with fail
  have hb2 := hb1.alloc hb1.size (.cells #[.string (B [97]), .string (B [98])] 9)
  refine (chain (Row_at [[97], [98]] _ 0 _ _ (reads_two _ _ _) (by simp) (Lib.hid rowS_ab) (Lib.hid codes_ab)) hb2).mono ?_
  rintro e w3 ⟨rfl, hb3⟩
  have h18 := len_ab
  have HSC := Lib.hid scan_ab
  generalize F.frames [[97], [98]] = t at *
  clear hb1 hb2
  have h17 : 17 ≤ (B t).size := by rw [size_B]; omega
  go_wp2_with fail
  refine (Scan_l (t.take 17) w3 (by rw [List.length_take]; omega)).mono ?_
  rintro e w4 ⟨v, rfl, hown, hb4⟩
  rw [HSC.out] at hown ⊢
  have hbb := hb3.trans (hb4.mono hb3.size)
  have hr4 := reads_own hown
  have hsz := hbb.size
  clear hb3 hb4 hown
  go_wp2_with fail
  refine (same_l [[97]] [[97]] v _ _ (reads_below hr4 ((Below.refl _ _).alloc (Nat.le_refl _) _)) (reads_one _ _) (by simp)).mono ?_
  rintro e w5 ⟨rfl, hq5⟩
  have hb5 := below_quiet (hbb.alloc hsz (.cells #[.string (B [97])] 9)) hq5
  clear hq5
  go_wp2
  go_ret
  exact ⟨rfl, hb5⟩
end Go.Proofs.Ytdphmoldfglhmaa
