/-
  The walk of shown of the statements' package: the chapter's examples.
-/
import Derived.Test.YtljcgpdjhjkciaaMsgFlat
namespace Go.Proofs.Ytljcgpdjhjkciaa
open Go.RowKit
attribute [local go_sem] ext_Bd ext_Bl ext_Bt toList_B add_B size_B get_Bt

theorem ex_fit : M.fits M.okP (M.shape 5) [.n 9] := ⟨⟨9, rfl, by unfold K.intOk; omega⟩, trivial⟩
theorem ex_bytes : ([M.Pt.n 9].flatMap M.putP) = [9] := by decide +kernel
theorem ex_one : M.takeMsg [5, 9] = Sum.inl ⟨5, [.n 9]⟩ := by
  have h := M.take_back (m := ⟨5, [.n 9]⟩) (by decide) (by decide) ex_fit (by decide +kernel)
  have e : M.bytesM ⟨5, [.n 9]⟩ = [5, 9] := by decide +kernel
  rwa [e] at h
theorem ex_two : M.takeMsg [5, 9, 0] = Sum.inr 2 := by
  have h := (M.bodyC 5).back [.n 9] [0] ex_fit
  rw [show ([M.Pt.n 9].flatMap M.putP) ++ [0] = [9, 0] by rw [ex_bytes]; rfl] at h
  rw [take_got (c := 5) (by decide) h, if_neg (by simp)]
theorem ex_three : M.takeMsg [99] = Sum.inr 2 := take_none (c := 99) rfl
theorem ex_ack : (MV.ack_ 1 2 300).out = [8, 1, 2, 172, 2] := by decide +kernel
theorem kind_five {m : MV} (h : m.kind = 5) : ∃ n, m = .where_ n := by
  cases m <;> first | exact ⟨_, rfl⟩ | (simp [MV.kind] at h)

set_option maxHeartbeats 4000000 in
set_option maxRecDepth 100000 in
theorem shown7_l (w : World) : Calls Try.prog 7 #[] w fun r w' => r = .returned (.bool true) ∧ Below w.heap.size w w' := by
  have HX1 := Lib.hid ex_one
  have HX2 := Lib.hid ex_two
  have HX3 := Lib.hid ex_three
  have HX4 := Lib.hid ex_ack
  go_enter Try.func7, Try.ntmps7
  go_wp2_with fail
  refine (MTake_at [5, 9] _ _ (by decide) HX1).mono ?_
  rintro x w1 ⟨hb1, m, rfl, hk, -, hrd⟩
  obtain ⟨n, rfl⟩ := kind_five hk
  clear hk hrd
  dsimp only [MV.val]
  go_wp2_with fail
  refine (MTake_at [5, 9, 0] _ _ (by decide) HX2).mono ?_
  rintro x w2 ⟨hb2, rfl⟩
  have hb12 := hb1.trans (hb2.mono hb1.size)
  clear hb1 hb2
  go_wp2_with fail
  refine (MTake_at [99] _ _ (by decide) HX3).mono ?_
  rintro x w3 ⟨hb3, rfl⟩
  have hb13 := hb12.trans (hb3.mono hb12.size)
  clear hb12 hb3
  go_wp2_with fail
  refine (flat_where n _).mono ?_
  rintro x w4 ⟨q, rfl, -, hb4, -⟩
  have HB := Lib.hid (hb13.trans (hb4.mono hb13.size))
  clear hb13 hb4
  have HPA : Hid (∀ w', Calls Try.prog 10 #[.iface 53 (.agg #[.int .i64 1, .int .i64 2, .int .i64 300])] w' fun x w'' => x = .returned (.string (B [8, 1, 2, 172, 2])) ∧ Below w'.heap.size w' w'') := Lib.hid fun w' => MPut_at (.ack_ 1 2 300) _ w' trivial HX4
  go_wp2_with fail
  refine (HPA.out _).mono ?_
  rintro x w5 ⟨rfl, hb5⟩
  have c0 := box_at hb5 0
  simp at c0
  have hb6 := HB.out.trans ((below_box hb5).mono HB.out.size)
  have HB6 := Lib.hid hb6
  clear hb5 hb6
  have hq : B [8, 1, 2, 172, 2] = (⟨#[8, 1, 2, 172, 2]⟩ : ByteArray) := rfl
  go_wp2_with fail
  refine (MRight_nil _).mono ?_
  rintro x w6 ⟨rfl, hb7⟩
  have HB7 := Lib.hid (HB6.out.trans (hb7.mono HB6.out.size))
  clear hb7
  go_wp2_with fail
  refine (MEpoch_nil _).mono ?_
  rintro x w7 ⟨rfl, hb8⟩
  have HB8 := Lib.hid (HB7.out.trans (hb8.mono HB7.out.size))
  clear hb8
  go_wp2
  go_ret
  exact ⟨rfl, HB8.out⟩
end Go.Proofs.Ytljcgpdjhjkciaa
