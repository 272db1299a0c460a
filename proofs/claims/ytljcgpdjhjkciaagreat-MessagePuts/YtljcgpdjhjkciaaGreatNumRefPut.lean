/-
  Walks of what the document's answer to layer 2 puts (package bucketlineref2): Put, PutInt, PutText, Fixed.
-/
import Derived.Test.YtljcgpdjhjkciaaGreatNumPut
namespace Go.Proofs.YtljcgpdjhjkciaaGreat
open Go.RowKit
attribute [local go_sem] ext_Bd ext_Bl ext_Bt toList_B add_B size_B get_Bt

set_option maxHeartbeats 1000000 in
set_option maxRecDepth 100000 in
theorem refPut_at (n : Int) (N0 : Nat) (HN : Hid (N0 ≤ 1099511627776)) (hk : Hid (N.held n = N0)) (w : World) :
    Calls Tryz.prog 24 #[.int .i64 n] w fun e w' => e = .returned (.string (B (N.putL N0))) ∧ Below w.heap.size w w' := by
  obtain ⟨i0, hi, hz0, hz1, hz2⟩ := info_parts Tryz.infoByte
  rcases (by omega : n ≤ 0 ∨ (0 < n ∧ n ≤ 1099511627776) ∨ 1099511627776 < n) with h | ⟨h, h'⟩ | h
  all_goals
    go_enter Tryz.func24, Tryz.ntmps24
    go_wp2
    go_loopw [3, 0] (fun v a wr => ∃ (m : Nat) (acc : List UInt8), a = .int .i64 m ∧ PutAt N0 w v wr m acc) (fun _ a _ => (intOf a).toNat)
    case atStart => exact ⟨N0, [], by rw [← hk.out]; unfold N.held; congr 1; omega, PutAt.start N0 w HN.out⟩
    case round =>
      rename_i v _
      obtain ⟨m, acc, rfl, hg⟩ := hrel
      have hle := hg.le
      have hlen := hg.len
      have hown := hg.own
      have hsz := hg.bel.size
      have HG := Lib.hid hg; clear hg
      by_cases hm : m < 128
      · go_wp2_with (at_builtin; refine wpList_append_own _ rfl _ _ 92 rfl w.heap.size 5 i0 (.int .u8 0) 1 1 Tryz.underlying92 hi hz0 hz1 hz2 rfl (by decide) _ _ _ rfl (hown.alloc _) ⟨wr.heap.size, 0, none⟩ 1 1 [.int .u8 m] rfl rfl (cell_one_new _ _ _) (by intro u hu; simp at hu; subst hu; rfl) (by unfold maxLen; omega) (by omega) (by simp; omega) ?_; intro v' w1 hown' hgrow _; have hcv := conv_owned (HG.out.last hm hgrow hown').2)
        go_ret
        exact ⟨rfl, (HG.out.last hm hgrow hown').1⟩
      · go_wp2_with (at_builtin; refine wpList_append_own _ rfl _ _ 92 rfl w.heap.size 5 i0 (.int .u8 0) 1 1 Tryz.underlying92 hi hz0 hz1 hz2 rfl (by decide) _ _ _ rfl (hown.alloc _) ⟨wr.heap.size, 0, none⟩ 1 1 [.int .u8 ((m % 128 + 128 : Nat) : Int)] rfl rfl (cell_one_new _ _ _) (by intro u hu; simp at hu; subst hu; rfl) (by unfold maxLen; omega) (by omega) (by simp; omega) ?_; intro v' w1 hown' hgrow _)
        have R := Lib.hid (HG.out.step HN.out hm rfl hgrow hown')
        clear hown' hgrow
        go_wp2
        go_roundw
        case rel => exact ⟨_, _, by go_num, R.out⟩
        case measure => simp [intOf]; omega
theorem refPut_any (n : Int) (w : World) :
    Calls Tryz.prog 24 #[.int .i64 n] w fun e w' => e = .returned (.string (B (N.putL (N.held n)))) ∧ Below w.heap.size w w' :=
  refPut_at n _ (Lib.hid (N.held_le n)) (Lib.hid rfl) w
theorem refPut_l (n : Nat) (w : World) (h : n ≤ 1099511627776) :
    Calls Tryz.prog 24 #[.int .i64 n] w fun e w' => e = .returned (.string (B (N.putL n))) ∧ Below w.heap.size w w' := by
  have := refPut_any n w
  rwa [show N.held n = n by unfold N.held; omega] at this

set_option maxHeartbeats 1000000 in
set_option maxRecDepth 100000 in
theorem refPutInt_at (n k : Int) (hk : Hid (N.heldI n = k)) (w : World) :
    Calls Tryz.prog 47 #[.int .i64 n] w fun e w' => e = .returned (.string (B (N.putL (N.held (N.zig k))))) ∧ Below w.heap.size w w' := by
  rcases (by omega : n ≤ -549755813888 ∨ (-549755813888 < n ∧ n < 0) ∨ (0 ≤ n ∧ n ≤ 549755813888) ∨ 549755813888 < n) with h | ⟨h, h'⟩ | ⟨h, h'⟩ | h
  all_goals
    go_enter Tryz.func47, Tryz.ntmps47
    go_wp2_with fail
    refine (refPut_any _ _).mono ?_
    rintro e w1 ⟨rfl, hb1⟩
    go_wp2
    go_ret
    refine ⟨ret_str ?_, hb1⟩
    rw [← hk.out]
    congr 3
    unfold N.zig N.heldI
    split <;> omega
theorem refPutInt_any (n : Int) (w : World) :
    Calls Tryz.prog 47 #[.int .i64 n] w fun e w' => e = .returned (.string (B (N.putL (N.zigN n)))) ∧ Below w.heap.size w w' := by
  rw [← N.held_zig]
  exact refPutInt_at n _ (Lib.hid rfl) w

set_option maxHeartbeats 1000000 in
theorem refPutText_l (l : List UInt8) (w : World) (h : l.length ≤ 1000000) :
    Calls Tryz.prog 28 #[.string (B l)] w fun e w' => e = .returned (.string (B (N.putT l))) ∧ Below w.heap.size w w' := by
  have hl := N.putL_len6 (m := l.length) (by omega)
  go_enter Tryz.func28, Tryz.ntmps28
  go_wp2_with fail
  refine (refPut_l l.length _ (by omega)).mono ?_
  rintro e w1 ⟨rfl, hb1⟩
  go_wp2
  go_ret
  exact ⟨rfl, hb1⟩

end Go.Proofs.YtljcgpdjhjkciaaGreat
