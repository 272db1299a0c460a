/-
  Walks of what package num and the document's answer put: within, Put, PutInt, PutText, Fixed.
-/
import Derived.Test.YtmfhipjceeijmaaNumFixed
namespace Go.Proofs.Ytmfhipjceeijmaa
open Go.RowKit
attribute [local go_sem] ext_Bd ext_Bl ext_Bt toList_B add_B size_B get_Bt

set_option maxHeartbeats 400000 in
theorem within_any (n lo hi : Int) (w : World) : Calls Try.prog 51 #[.int .i64 n, .int .i64 lo, .int .i64 hi] w fun e w' => e = .returned (.int .i64 (min (max n lo) hi)) ∧ w = w' := by
  go_enter Try.func51, Try.ntmps51
  by_cases h : n < lo
  all_goals
    go_wp2
    all_goals
      go_ret
      exact ⟨ret_int (by omega), rfl⟩
theorem within_held (n : Int) (w : World) : Calls Try.prog 51 #[.int .i64 n, .int .i64 0, .int .i64 1099511627776] w fun e w' => e = .returned (.int .i64 (N.held n)) ∧ w = w' :=
  (within_any n 0 1099511627776 w).mono fun e w' ⟨a, b⟩ => ⟨by rw [a]; exact ret_int (by unfold N.held; omega), b⟩
theorem within_heldI (n : Int) (w : World) : Calls Try.prog 51 #[.int .i64 n, .int .i64 (-549755813888), .int .i64 549755813888] w fun e w' => e = .returned (.int .i64 (N.heldI n)) ∧ w = w' :=
  (within_any n (-549755813888) 549755813888 w).mono fun e w' ⟨a, b⟩ => ⟨by rw [a]; exact ret_int (by unfold N.heldI; omega), b⟩

structure PutAt (N0 : Nat) (w : World) (v : Value) (wr : World) (m : Nat) (acc : List UInt8) : Prop where
  own : wr.ownsRow w.heap.size 5 1 v acc.length (Lib.byteCells acc)
  bel : Below w.heap.size w wr
  cut : N.putL N0 = acc ++ N.putL m
  le : m ≤ 1099511627776
  len : acc.length ≤ 5
theorem PutAt.start (N0 : Nat) (w : World) (h : N0 ≤ 1099511627776) : PutAt N0 w (.slice none 0 0) w N0 [] :=
  ⟨World.ownsRow_nil _ _ _ _, Below.refl _ w, rfl, h, by simp⟩
theorem byte_cell {c : Nat} (h : c < 256) : [Value.int .u8 (c : Int)] = Lib.byteCells [c.toUInt8] := by
  have := N.u8_nat h
  simp [Lib.byteCells, this]
theorem PutAt.step {N0 : Nat} {w : World} {v v' : Value} {wr w1 : World} {m k c : Nat} {acc : List UInt8} {o : Obj} (h : PutAt N0 w v wr m acc) (hN : N0 ≤ 1099511627776) (hm : ¬ m < 128) (hc : c = m % 128 + 128)
    (hg : (wr.alloc o).grownBy w1 v.ownBlock) (ho : w1.ownsRow w.heap.size 5 1 v' k (Lib.byteCells acc ++ [.int .u8 (c : Int)])) : PutAt N0 w v' w1 (m / 128) (acc ++ [c.toUInt8]) := by
  subst hc
  have hle := h.le
  have hk : k = (acc ++ [(m % 128 + 128).toUInt8]).length := by have := ho.1; simp [Lib.byteCells_length] at this; simp; omega
  subst hk
  rw [byte_cell (by omega), ← Lib.byteCells_append] at ho
  have hcut : N.putL N0 = (acc ++ [(m % 128 + 128).toUInt8]) ++ N.putL (m / 128) := by rw [h.cut, N.putL_hi hm]; simp
  refine ⟨ho, below_grown h.bel h.bel.size h.own hg, hcut, by omega, ?_⟩
  have h1 := N.putL_len6 hN
  have h2 := N.putL_pos (m / 128)
  rw [hcut] at h1
  simp at h1 ⊢; omega
theorem PutAt.done {N0 : Nat} {w : World} {v : Value} {wr : World} {m : Nat} {acc : List UInt8} (h : PutAt N0 w v wr m acc) (hm : m < 128) : N.putL N0 = acc ++ [m.toUInt8] := by
  rw [h.cut, N.putL_lo hm]
theorem PutAt.last {N0 : Nat} {w : World} {v v' : Value} {wr w1 : World} {m k : Nat} {acc : List UInt8} {o : Obj} (h : PutAt N0 w v wr m acc) (hm : m < 128)
    (hg : (wr.alloc o).grownBy w1 v.ownBlock) (ho : w1.ownsRow w.heap.size 5 1 v' k (Lib.byteCells acc ++ [.int .u8 (m : Int)])) : Below w.heap.size w w1 ∧ w1.ownsRow w.heap.size 5 1 v' k (Lib.byteCells (N.putL N0)) := by
  refine ⟨below_grown h.bel h.bel.size h.own hg, ?_⟩
  rw [h.done hm, Lib.byteCells_append, ← byte_cell (by omega)]
  exact ho

set_option maxHeartbeats 1000000 in
set_option maxRecDepth 100000 in
theorem Put_at (n : Int) (N0 : Nat) (HN : Hid (N0 ≤ 1099511627776)) (hk : Hid (N.held n = N0)) (w : World) :
    Calls Try.prog 37 #[.int .i64 n] w fun e w' => e = .returned (.string (B (N.putL N0))) ∧ Below w.heap.size w w' := by
  obtain ⟨i0, hi, hz0, hz1, hz2⟩ := info_parts Try.infoByte
  go_enter Try.func37, Try.ntmps37
  go_wp2_with fail
  refine (within_held n w).mono ?_
  rintro e w' ⟨rfl, rfl⟩
  rw [hk.out]
  go_wp2
  go_loopw [3, 4] (fun v a wr => ∃ (m : Nat) (acc : List UInt8), a = .int .i64 m ∧ PutAt N0 w v wr m acc) (fun _ a _ => (intOf a).toNat)
  case atStart => exact ⟨N0, [], rfl, PutAt.start N0 w HN.out⟩
  case round =>
    rename_i v _
    obtain ⟨m, acc, rfl, hg⟩ := hrel
    have hle := hg.le
    have hlen := hg.len
    have hown := hg.own
    have hsz := hg.bel.size
    have HG := Lib.hid hg; clear hg
    by_cases hm : m < 128
    · go_wp2_with (at_builtin; refine wpList_append_own _ rfl _ _ 53 rfl w.heap.size 5 i0 (.int .u8 0) 1 1 Try.underlying53 hi hz0 hz1 hz2 rfl (by decide) _ _ _ rfl (hown.alloc _) ⟨wr.heap.size, 0, none⟩ 1 1 [.int .u8 m] rfl rfl (cell_one_new _ _ _) (by intro u hu; simp at hu; subst hu; rfl) (by unfold maxLen; omega) (by omega) (by simp; omega) ?_; intro v' w1 hown' hgrow _; have hcv := conv_owned (HG.out.last hm hgrow hown').2)
      go_ret
      exact ⟨rfl, (HG.out.last hm hgrow hown').1⟩
    · go_wp2_with (at_builtin; refine wpList_append_own _ rfl _ _ 53 rfl w.heap.size 5 i0 (.int .u8 0) 1 1 Try.underlying53 hi hz0 hz1 hz2 rfl (by decide) _ _ _ rfl (hown.alloc _) ⟨wr.heap.size, 0, none⟩ 1 1 [.int .u8 ((m % 128 + 128 : Nat) : Int)] rfl rfl (cell_one_new _ _ _) (by intro u hu; simp at hu; subst hu; rfl) (by unfold maxLen; omega) (by omega) (by simp; omega) ?_; intro v' w1 hown' hgrow _)
      have R := Lib.hid (HG.out.step HN.out hm rfl hgrow hown')
      clear hown' hgrow
      go_wp2
      go_roundw
      case rel => exact ⟨_, _, by go_num, R.out⟩
      case measure => simp [intOf]; omega
theorem Put_any (n : Int) (w : World) :
    Calls Try.prog 37 #[.int .i64 n] w fun e w' => e = .returned (.string (B (N.putL (N.held n)))) ∧ Below w.heap.size w w' :=
  Put_at n _ (Lib.hid (N.held_le n)) (Lib.hid rfl) w

theorem Put_l (n : Nat) (w : World) (h : n ≤ 1099511627776) :
    Calls Try.prog 37 #[.int .i64 n] w fun e w' => e = .returned (.string (B (N.putL n))) ∧ Below w.heap.size w w' := by
  have := Put_any n w
  rwa [show N.held n = n by unfold N.held; omega] at this

end Go.Proofs.Ytmfhipjceeijmaa
