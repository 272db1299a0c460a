/-
  Kind of each message, and the walk of flat of the statements' package.
-/
import Derived.Test.YtljcgpdjhjkciaaGreatMsgTakes
import Derived.Laws.Tables
import Derived.Laws.CopyOwn
import Derived.Laws.ResultCell
namespace Go.Proofs.YtljcgpdjhjkciaaGreat
open Go.RowKit
attribute [local go_sem] ext_Bd ext_Bl ext_Bt toList_B add_B size_B get_Bt

theorem below_set1 {B0 b : Nat} {w W : World} (h : Below B0 w W) (hb : B0 ≤ b) (j : Nat) (u : Value) : Below B0 w (W.setCell ⟨b, j, none⟩ u) :=
  ⟨h.os, h.tape, h.output, by have := h.size; simp [World.setCell]; exact this, fun k hk => (Below.heap_setCell _ _ _ _ (fun e => by simp at e; omega)).trans (h.block k hk)⟩
theorem new_at3 {w : World} {ob ob2 ob3 : Obj} {q : Nat} (h : w.heap.size = q) : (((w.alloc ob).alloc ob2).alloc ob3).heap[q]? = some ob := by
  rw [Below.heap_alloc _ _ _ (by simp; omega)]
  exact new_at2 h
theorem row14 {B0 b q : Nat} {w W : World} {t : TypeId} {zs cs : Array Value} {o : Obj} (hz : W.heap[b]? = some (.cells zs t (0, 0))) (hb : Below B0 w W) (hq : W.heap[q]? = some o) (hne : q ≠ b ∧ B0 ≤ b) :
    ∃ w9, Hid (w9 = W.setRow b cs) ∧ Hid (w9.heap[b]? = some (.cells cs t (0, 0))) ∧ Hid (Below B0 w w9) ∧ Hid (w9.heap[q]? = some o) :=
  ⟨_, Lib.hid rfl, Lib.hid (setRow_heap W b zs _ t (0, 0) hz), Lib.hid (below_setRow hb hne.2 _), Lib.hid ((setRow_other W b q _ hne.1).trans hq)⟩

set_option maxHeartbeats 1000000 in
set_option maxRecDepth 100000 in
theorem kind_beat (n1 n2 n3 : Int) (w : World) : Calls Tryz.prog 120 #[.agg #[.int .i64 n1, .int .i64 n2, .int .i64 n3]] w fun x w' => x = .returned (.int .i64 1) ∧ Below w.heap.size w w' := by
  go_enter Tryz.func120, Tryz.ntmps120
  go_wp2
  go_ret
  exact ⟨rfl, by go_grown⟩

set_option maxHeartbeats 4000000 in
set_option maxRecDepth 100000 in
theorem flat_beat (n1 n2 n3 : Int) (w : World) :
    Calls Tryz.prog 7 #[.iface 57 (.agg #[.int .i64 n1, .int .i64 n2, .int .i64 n3])] w fun x w' => ∃ q, x = .returned (.tuple #[.agg #[.int .i64 1, .slice (some ⟨q, 0, none⟩) 3 3, .slice none 0 0, .slice none 0 0, .slice none 0 0, .slice none 0 0, .slice none 0 0, .slice none 0 0, .string ⟨#[]⟩, .int .i64 0, .int .i64 0, .int .i64 0, .slice none 0 0, .string ⟨#[]⟩], .bool true]) ∧ w'.heap[q]? = some (.cells (intsA [n1, n2, n3]) 3 (0, 0)) ∧ Below w.heap.size w w' ∧ w.heap.size ≤ q := by
  have hnn := not_nil
  have as0 := fun v W => Tryz.yes_beat v W
  have HZ0 : Hid ((w.alloc (.cells #[.int .i64 0, .slice none 0 0, .slice none 0 0, .slice none 0 0, .slice none 0 0, .slice none 0 0, .slice none 0 0, .slice none 0 0, .string ⟨#[]⟩, .int .i64 0, .int .i64 0, .int .i64 0, .slice none 0 0, .string ⟨#[]⟩] 37)).heap[w.heap.size]? = some (.cells #[.int .i64 0, .slice none 0 0, .slice none 0 0, .slice none 0 0, .slice none 0 0, .slice none 0 0, .slice none 0 0, .slice none 0 0, .string ⟨#[]⟩, .int .i64 0, .int .i64 0, .int .i64 0, .slice none 0 0, .string ⟨#[]⟩] 37 (0, 0))) := Lib.hid (new_at rfl)
  have HB0 := Lib.hid ((Below.refl _ w).alloc (Nat.le_refl _) (.cells #[.int .i64 0, .slice none 0 0, .slice none 0 0, .slice none 0 0, .slice none 0 0, .slice none 0 0, .slice none 0 0, .slice none 0 0, .string ⟨#[]⟩, .int .i64 0, .int .i64 0, .int .i64 0, .slice none 0 0, .string ⟨#[]⟩] 37))
  go_enter Tryz.func7, Tryz.ntmps7
  go_wp2_with fail
  refine (kind_beat n1 n2 n3 _).mono ?_
  rintro x w1 ⟨rfl, hb1⟩
  have hz1 := block_below HZ0.out hb1
  have hwb := HB0.out.trans (hb1.mono HB0.out.size)
  have hlt1 := lt_of_block hz1
  have HZ3 : (((w1.alloc (.cells #[.int .i64 1, .slice (some ⟨w1.heap.size + 1 + 1, 0, none⟩) 3 3, .slice none 0 0, .slice none 0 0, .slice none 0 0, .slice none 0 0, .slice none 0 0, .slice none 0 0, .string ⟨#[]⟩, .int .i64 0, .int .i64 0, .int .i64 0, .slice none 0 0, .string ⟨#[]⟩] 37)).alloc (.cells #[.int .i64 n1, .int .i64 n2, .int .i64 n3] 57)).alloc (.cells #[.int .i64 n1, .int .i64 n2, .int .i64 n3] 3)).heap[w.heap.size]? = some (.cells #[.int .i64 0, .slice none 0 0, .slice none 0 0, .slice none 0 0, .slice none 0 0, .slice none 0 0, .slice none 0 0, .slice none 0 0, .string ⟨#[]⟩, .int .i64 0, .int .i64 0, .int .i64 0, .slice none 0 0, .string ⟨#[]⟩] 37 (0, 0)) := block_below hz1 (((((Below.refl _ w1).alloc (Nat.le_refl _) _).alloc (by simp) _).alloc (by simp; omega) _))
  have HB3 : Below w.heap.size w (((w1.alloc (.cells #[.int .i64 1, .slice (some ⟨w1.heap.size + 1 + 1, 0, none⟩) 3 3, .slice none 0 0, .slice none 0 0, .slice none 0 0, .slice none 0 0, .slice none 0 0, .slice none 0 0, .string ⟨#[]⟩, .int .i64 0, .int .i64 0, .int .i64 0, .slice none 0 0, .string ⟨#[]⟩] 37)).alloc (.cells #[.int .i64 n1, .int .i64 n2, .int .i64 n3] 57)).alloc (.cells #[.int .i64 n1, .int .i64 n2, .int .i64 n3] 3)) := ((hwb.alloc hwb.size _).alloc (by have := hwb.size; simp; omega) _).alloc (by have := hwb.size; simp; omega) _
  have hf0 : (((w1.alloc (.cells #[.int .i64 1, .slice (some ⟨w1.heap.size + 1 + 1, 0, none⟩) 3 3, .slice none 0 0, .slice none 0 0, .slice none 0 0, .slice none 0 0, .slice none 0 0, .slice none 0 0, .string ⟨#[]⟩, .int .i64 0, .int .i64 0, .int .i64 0, .slice none 0 0, .string ⟨#[]⟩] 37)).alloc (.cells #[.int .i64 n1, .int .i64 n2, .int .i64 n3] 57)).alloc (.cells #[.int .i64 n1, .int .i64 n2, .int .i64 n3] 3)).heap[w1.heap.size]? = some (.cells #[.int .i64 1, .slice (some ⟨w1.heap.size + 1 + 1, 0, none⟩) 3 3, .slice none 0 0, .slice none 0 0, .slice none 0 0, .slice none 0 0, .slice none 0 0, .slice none 0 0, .string ⟨#[]⟩, .int .i64 0, .int .i64 0, .int .i64 0, .slice none 0 0, .string ⟨#[]⟩] 37 (0, 0)) := new_at3 rfl
  have HF : Hid ((((w1.alloc (.cells #[.int .i64 1, .slice (some ⟨w1.heap.size + 1 + 1, 0, none⟩) 3 3, .slice none 0 0, .slice none 0 0, .slice none 0 0, .slice none 0 0, .slice none 0 0, .slice none 0 0, .string ⟨#[]⟩, .int .i64 0, .int .i64 0, .int .i64 0, .slice none 0 0, .string ⟨#[]⟩] 37)).alloc (.cells #[.int .i64 n1, .int .i64 n2, .int .i64 n3] 57)).alloc (.cells #[.int .i64 n1, .int .i64 n2, .int .i64 n3] 3)).heap[w1.heap.size]? = some (.cells #[.int .i64 1, .slice (some ⟨w1.heap.size + 1 + 1, 0, none⟩) 3 3, .slice none 0 0, .slice none 0 0, .slice none 0 0, .slice none 0 0, .slice none 0 0, .slice none 0 0, .string ⟨#[]⟩, .int .i64 0, .int .i64 0, .int .i64 0, .slice none 0 0, .string ⟨#[]⟩] 37 (0, 0))) := Lib.hid (hf0)
  have HQ : Hid ((((w1.alloc (.cells #[.int .i64 1, .slice (some ⟨w1.heap.size + 1 + 1, 0, none⟩) 3 3, .slice none 0 0, .slice none 0 0, .slice none 0 0, .slice none 0 0, .slice none 0 0, .slice none 0 0, .string ⟨#[]⟩, .int .i64 0, .int .i64 0, .int .i64 0, .slice none 0 0, .string ⟨#[]⟩] 37)).alloc (.cells #[.int .i64 n1, .int .i64 n2, .int .i64 n3] 57)).alloc (.cells #[.int .i64 n1, .int .i64 n2, .int .i64 n3] 3)).heap[w1.heap.size + 1 + 1]? = some (.cells (intsA [n1, n2, n3]) 3 (0, 0))) := Lib.hid (new_at (by simp))
  have HZZ : Hid ((((w1.alloc (.cells #[.int .i64 1, .slice (some ⟨w1.heap.size + 1 + 1, 0, none⟩) 3 3, .slice none 0 0, .slice none 0 0, .slice none 0 0, .slice none 0 0, .slice none 0 0, .slice none 0 0, .string ⟨#[]⟩, .int .i64 0, .int .i64 0, .int .i64 0, .slice none 0 0, .string ⟨#[]⟩] 37)).alloc (.cells #[.int .i64 n1, .int .i64 n2, .int .i64 n3] 57)).alloc (.cells #[.int .i64 n1, .int .i64 n2, .int .i64 n3] 3)).heap[w.heap.size]? = some (.cells #[.int .i64 0, .slice none 0 0, .slice none 0 0, .slice none 0 0, .slice none 0 0, .slice none 0 0, .slice none 0 0, .slice none 0 0, .string ⟨#[]⟩, .int .i64 0, .int .i64 0, .int .i64 0, .slice none 0 0, .string ⟨#[]⟩] 37 (0, 0))) := Lib.hid (HZ3)
  have HBB : Hid (Below w.heap.size w (((w1.alloc (.cells #[.int .i64 1, .slice (some ⟨w1.heap.size + 1 + 1, 0, none⟩) 3 3, .slice none 0 0, .slice none 0 0, .slice none 0 0, .slice none 0 0, .slice none 0 0, .slice none 0 0, .string ⟨#[]⟩, .int .i64 0, .int .i64 0, .int .i64 0, .slice none 0 0, .string ⟨#[]⟩] 37)).alloc (.cells #[.int .i64 n1, .int .i64 n2, .int .i64 n3] 57)).alloc (.cells #[.int .i64 n1, .int .i64 n2, .int .i64 n3] 3))) := Lib.hid (HB3)
  have hsz1 := hwb.size
  clear HZ3 HB3 hz1 hb1 hwb HZ0 HB0 hf0
  go_upto_region 57 with (fail)
  generalize (((w1.alloc (.cells #[.int .i64 1, .slice (some ⟨w1.heap.size + 1 + 1, 0, none⟩) 3 3, .slice none 0 0, .slice none 0 0, .slice none 0 0, .slice none 0 0, .slice none 0 0, .slice none 0 0, .string ⟨#[]⟩, .int .i64 0, .int .i64 0, .int .i64 0, .slice none 0 0, .string ⟨#[]⟩] 37)).alloc (.cells #[.int .i64 n1, .int .i64 n2, .int .i64 n3] 57)).alloc (.cells #[.int .i64 n1, .int .i64 n2, .int .i64 n3] 3)) = W9 at HF HQ HZZ HBB ⊢
  refine wp_region_lit ?_
  refine wpList_load_row rfl 37 (.tmp 4) rfl w1.heap.size rfl 37 #[.int .i64 1, .slice (some ⟨w1.heap.size + 1 + 1, 0, none⟩) 3 3, .slice none 0 0, .slice none 0 0, .slice none 0 0, .slice none 0 0, .slice none 0 0, .slice none 0 0, .string ⟨#[]⟩, .int .i64 0, .int .i64 0, .int .i64 0, .slice none 0 0, .string ⟨#[]⟩] (0, 0) _ HF.out Tryz.underlying37 rfl (by kernel_rfl) ?_
  refine wpList_store_row rfl 37 (.tmp 2) (.tmp 208) rfl w.heap.size #[.int .i64 1, .slice (some ⟨w1.heap.size + 1 + 1, 0, none⟩) 3 3, .slice none 0 0, .slice none 0 0, .slice none 0 0, .slice none 0 0, .slice none 0 0, .slice none 0 0, .string ⟨#[]⟩, .int .i64 0, .int .i64 0, .int .i64 0, .slice none 0 0, .string ⟨#[]⟩] rfl rfl 37 #[.int .i64 0, .slice none 0 0, .slice none 0 0, .slice none 0 0, .slice none 0 0, .slice none 0 0, .slice none 0 0, .slice none 0 0, .string ⟨#[]⟩, .int .i64 0, .int .i64 0, .int .i64 0, .slice none 0 0, .string ⟨#[]⟩] HZZ.out (by kernel_rfl) rfl (by simp [Value.oneCell']) ?_
  obtain ⟨w9, HW9, HK, HB9, HQ9⟩ := row14 (cs := #[.int .i64 1, .slice (some ⟨w1.heap.size + 1 + 1, 0, none⟩) 3 3, .slice none 0 0, .slice none 0 0, .slice none 0 0, .slice none 0 0, .slice none 0 0, .slice none 0 0, .string ⟨#[]⟩, .int .i64 0, .int .i64 0, .int .i64 0, .slice none 0 0, .string ⟨#[]⟩]) HZZ.out HBB.out HQ.out (by omega)
  rw [← HW9.out]
  clear HW9 HF HZZ HBB HQ
  have hld := run_loadVar_row (P := Tryz.prog) w9 w.heap.size 37 37 #[.int .i64 1, .slice (some ⟨w1.heap.size + 1 + 1, 0, none⟩) 3 3, .slice none 0 0, .slice none 0 0, .slice none 0 0, .slice none 0 0, .slice none 0 0, .slice none 0 0, .string ⟨#[]⟩, .int .i64 0, .int .i64 0, .int .i64 0, .slice none 0 0, .string ⟨#[]⟩] (0, 0) _ HK.out Tryz.underlying37 rfl (by kernel_rfl)
  have HLD := Lib.hid hld
  clear hld
  go_wp2
  (try simp only [Exit.inBlock, Exit.then])
  refine bodyPost_ret (v := .tuple #[.agg #[.int .i64 1, .slice (some ⟨w1.heap.size + 1 + 1, 0, none⟩) 3 3, .slice none 0 0, .slice none 0 0, .slice none 0 0, .slice none 0 0, .slice none 0 0, .slice none 0 0, .string ⟨#[]⟩, .int .i64 0, .int .i64 0, .int .i64 0, .slice none 0 0, .string ⟨#[]⟩], .bool true]) ?_ rfl ⟨_, rfl, HQ9.out, HB9.out, by omega⟩
  rw [results_cell_tmp rfl]
  simp [asAddr, Result.andThen, HLD.out]

set_option maxHeartbeats 1000000 in
set_option maxRecDepth 100000 in
theorem kind_join (n1 n2 : Int) (w : World) : Calls Tryz.prog 121 #[.agg #[.int .i64 n1, .int .i64 n2]] w fun x w' => x = .returned (.int .i64 2) ∧ Below w.heap.size w w' := by
  go_enter Tryz.func121, Tryz.ntmps121
  go_wp2
  go_ret
  exact ⟨rfl, by go_grown⟩

set_option maxHeartbeats 4000000 in
set_option maxRecDepth 100000 in
theorem flat_join (n1 n2 : Int) (w : World) :
    Calls Tryz.prog 7 #[.iface 59 (.agg #[.int .i64 n1, .int .i64 n2])] w fun x w' => ∃ q, x = .returned (.tuple #[.agg #[.int .i64 2, .slice (some ⟨q, 0, none⟩) 2 2, .slice none 0 0, .slice none 0 0, .slice none 0 0, .slice none 0 0, .slice none 0 0, .slice none 0 0, .string ⟨#[]⟩, .int .i64 0, .int .i64 0, .int .i64 0, .slice none 0 0, .string ⟨#[]⟩], .bool true]) ∧ w'.heap[q]? = some (.cells (intsA [n1, n2]) 3 (0, 0)) ∧ Below w.heap.size w w' ∧ w.heap.size ≤ q := by
  have hnn := not_nil
  have as0 := fun v W => Tryz.no_beat 59 v W (by decide)
  have as1 := fun v W => Tryz.yes_join v W
  have HZ0 : Hid ((w.alloc (.cells #[.int .i64 0, .slice none 0 0, .slice none 0 0, .slice none 0 0, .slice none 0 0, .slice none 0 0, .slice none 0 0, .slice none 0 0, .string ⟨#[]⟩, .int .i64 0, .int .i64 0, .int .i64 0, .slice none 0 0, .string ⟨#[]⟩] 37)).heap[w.heap.size]? = some (.cells #[.int .i64 0, .slice none 0 0, .slice none 0 0, .slice none 0 0, .slice none 0 0, .slice none 0 0, .slice none 0 0, .slice none 0 0, .string ⟨#[]⟩, .int .i64 0, .int .i64 0, .int .i64 0, .slice none 0 0, .string ⟨#[]⟩] 37 (0, 0))) := Lib.hid (new_at rfl)
  have HB0 := Lib.hid ((Below.refl _ w).alloc (Nat.le_refl _) (.cells #[.int .i64 0, .slice none 0 0, .slice none 0 0, .slice none 0 0, .slice none 0 0, .slice none 0 0, .slice none 0 0, .slice none 0 0, .string ⟨#[]⟩, .int .i64 0, .int .i64 0, .int .i64 0, .slice none 0 0, .string ⟨#[]⟩] 37))
  go_enter Tryz.func7, Tryz.ntmps7
  go_wp2_with fail
  refine (kind_join n1 n2 _).mono ?_
  rintro x w1 ⟨rfl, hb1⟩
  have hz1 := block_below HZ0.out hb1
  have hwb := HB0.out.trans (hb1.mono HB0.out.size)
  have hlt1 := lt_of_block hz1
  have HZ3 : (((w1.alloc (.cells #[.int .i64 2, .slice (some ⟨w1.heap.size + 1 + 1, 0, none⟩) 2 2, .slice none 0 0, .slice none 0 0, .slice none 0 0, .slice none 0 0, .slice none 0 0, .slice none 0 0, .string ⟨#[]⟩, .int .i64 0, .int .i64 0, .int .i64 0, .slice none 0 0, .string ⟨#[]⟩] 37)).alloc (.cells #[.int .i64 n1, .int .i64 n2] 59)).alloc (.cells #[.int .i64 n1, .int .i64 n2] 3)).heap[w.heap.size]? = some (.cells #[.int .i64 0, .slice none 0 0, .slice none 0 0, .slice none 0 0, .slice none 0 0, .slice none 0 0, .slice none 0 0, .slice none 0 0, .string ⟨#[]⟩, .int .i64 0, .int .i64 0, .int .i64 0, .slice none 0 0, .string ⟨#[]⟩] 37 (0, 0)) := block_below hz1 (((((Below.refl _ w1).alloc (Nat.le_refl _) _).alloc (by simp) _).alloc (by simp; omega) _))
  have HB3 : Below w.heap.size w (((w1.alloc (.cells #[.int .i64 2, .slice (some ⟨w1.heap.size + 1 + 1, 0, none⟩) 2 2, .slice none 0 0, .slice none 0 0, .slice none 0 0, .slice none 0 0, .slice none 0 0, .slice none 0 0, .string ⟨#[]⟩, .int .i64 0, .int .i64 0, .int .i64 0, .slice none 0 0, .string ⟨#[]⟩] 37)).alloc (.cells #[.int .i64 n1, .int .i64 n2] 59)).alloc (.cells #[.int .i64 n1, .int .i64 n2] 3)) := ((hwb.alloc hwb.size _).alloc (by have := hwb.size; simp; omega) _).alloc (by have := hwb.size; simp; omega) _
  have hf0 : (((w1.alloc (.cells #[.int .i64 2, .slice (some ⟨w1.heap.size + 1 + 1, 0, none⟩) 2 2, .slice none 0 0, .slice none 0 0, .slice none 0 0, .slice none 0 0, .slice none 0 0, .slice none 0 0, .string ⟨#[]⟩, .int .i64 0, .int .i64 0, .int .i64 0, .slice none 0 0, .string ⟨#[]⟩] 37)).alloc (.cells #[.int .i64 n1, .int .i64 n2] 59)).alloc (.cells #[.int .i64 n1, .int .i64 n2] 3)).heap[w1.heap.size]? = some (.cells #[.int .i64 2, .slice (some ⟨w1.heap.size + 1 + 1, 0, none⟩) 2 2, .slice none 0 0, .slice none 0 0, .slice none 0 0, .slice none 0 0, .slice none 0 0, .slice none 0 0, .string ⟨#[]⟩, .int .i64 0, .int .i64 0, .int .i64 0, .slice none 0 0, .string ⟨#[]⟩] 37 (0, 0)) := new_at3 rfl
  have HF : Hid ((((w1.alloc (.cells #[.int .i64 2, .slice (some ⟨w1.heap.size + 1 + 1, 0, none⟩) 2 2, .slice none 0 0, .slice none 0 0, .slice none 0 0, .slice none 0 0, .slice none 0 0, .slice none 0 0, .string ⟨#[]⟩, .int .i64 0, .int .i64 0, .int .i64 0, .slice none 0 0, .string ⟨#[]⟩] 37)).alloc (.cells #[.int .i64 n1, .int .i64 n2] 59)).alloc (.cells #[.int .i64 n1, .int .i64 n2] 3)).heap[w1.heap.size]? = some (.cells #[.int .i64 2, .slice (some ⟨w1.heap.size + 1 + 1, 0, none⟩) 2 2, .slice none 0 0, .slice none 0 0, .slice none 0 0, .slice none 0 0, .slice none 0 0, .slice none 0 0, .string ⟨#[]⟩, .int .i64 0, .int .i64 0, .int .i64 0, .slice none 0 0, .string ⟨#[]⟩] 37 (0, 0))) := Lib.hid (hf0)
  have HQ : Hid ((((w1.alloc (.cells #[.int .i64 2, .slice (some ⟨w1.heap.size + 1 + 1, 0, none⟩) 2 2, .slice none 0 0, .slice none 0 0, .slice none 0 0, .slice none 0 0, .slice none 0 0, .slice none 0 0, .string ⟨#[]⟩, .int .i64 0, .int .i64 0, .int .i64 0, .slice none 0 0, .string ⟨#[]⟩] 37)).alloc (.cells #[.int .i64 n1, .int .i64 n2] 59)).alloc (.cells #[.int .i64 n1, .int .i64 n2] 3)).heap[w1.heap.size + 1 + 1]? = some (.cells (intsA [n1, n2]) 3 (0, 0))) := Lib.hid (new_at (by simp))
  have HZZ : Hid ((((w1.alloc (.cells #[.int .i64 2, .slice (some ⟨w1.heap.size + 1 + 1, 0, none⟩) 2 2, .slice none 0 0, .slice none 0 0, .slice none 0 0, .slice none 0 0, .slice none 0 0, .slice none 0 0, .string ⟨#[]⟩, .int .i64 0, .int .i64 0, .int .i64 0, .slice none 0 0, .string ⟨#[]⟩] 37)).alloc (.cells #[.int .i64 n1, .int .i64 n2] 59)).alloc (.cells #[.int .i64 n1, .int .i64 n2] 3)).heap[w.heap.size]? = some (.cells #[.int .i64 0, .slice none 0 0, .slice none 0 0, .slice none 0 0, .slice none 0 0, .slice none 0 0, .slice none 0 0, .slice none 0 0, .string ⟨#[]⟩, .int .i64 0, .int .i64 0, .int .i64 0, .slice none 0 0, .string ⟨#[]⟩] 37 (0, 0))) := Lib.hid (HZ3)
  have HBB : Hid (Below w.heap.size w (((w1.alloc (.cells #[.int .i64 2, .slice (some ⟨w1.heap.size + 1 + 1, 0, none⟩) 2 2, .slice none 0 0, .slice none 0 0, .slice none 0 0, .slice none 0 0, .slice none 0 0, .slice none 0 0, .string ⟨#[]⟩, .int .i64 0, .int .i64 0, .int .i64 0, .slice none 0 0, .string ⟨#[]⟩] 37)).alloc (.cells #[.int .i64 n1, .int .i64 n2] 59)).alloc (.cells #[.int .i64 n1, .int .i64 n2] 3))) := Lib.hid (HB3)
  have hsz1 := hwb.size
  clear HZ3 HB3 hz1 hb1 hwb HZ0 HB0 hf0
  go_upto_region 57 with (fail)
  generalize (((w1.alloc (.cells #[.int .i64 2, .slice (some ⟨w1.heap.size + 1 + 1, 0, none⟩) 2 2, .slice none 0 0, .slice none 0 0, .slice none 0 0, .slice none 0 0, .slice none 0 0, .slice none 0 0, .string ⟨#[]⟩, .int .i64 0, .int .i64 0, .int .i64 0, .slice none 0 0, .string ⟨#[]⟩] 37)).alloc (.cells #[.int .i64 n1, .int .i64 n2] 59)).alloc (.cells #[.int .i64 n1, .int .i64 n2] 3)) = W9 at HF HQ HZZ HBB ⊢
  refine wp_region_lit ?_
  refine wpList_load_row rfl 37 (.tmp 4) rfl w1.heap.size rfl 37 #[.int .i64 2, .slice (some ⟨w1.heap.size + 1 + 1, 0, none⟩) 2 2, .slice none 0 0, .slice none 0 0, .slice none 0 0, .slice none 0 0, .slice none 0 0, .slice none 0 0, .string ⟨#[]⟩, .int .i64 0, .int .i64 0, .int .i64 0, .slice none 0 0, .string ⟨#[]⟩] (0, 0) _ HF.out Tryz.underlying37 rfl (by kernel_rfl) ?_
  refine wpList_store_row rfl 37 (.tmp 2) (.tmp 208) rfl w.heap.size #[.int .i64 2, .slice (some ⟨w1.heap.size + 1 + 1, 0, none⟩) 2 2, .slice none 0 0, .slice none 0 0, .slice none 0 0, .slice none 0 0, .slice none 0 0, .slice none 0 0, .string ⟨#[]⟩, .int .i64 0, .int .i64 0, .int .i64 0, .slice none 0 0, .string ⟨#[]⟩] rfl rfl 37 #[.int .i64 0, .slice none 0 0, .slice none 0 0, .slice none 0 0, .slice none 0 0, .slice none 0 0, .slice none 0 0, .slice none 0 0, .string ⟨#[]⟩, .int .i64 0, .int .i64 0, .int .i64 0, .slice none 0 0, .string ⟨#[]⟩] HZZ.out (by kernel_rfl) rfl (by simp [Value.oneCell']) ?_
  obtain ⟨w9, HW9, HK, HB9, HQ9⟩ := row14 (cs := #[.int .i64 2, .slice (some ⟨w1.heap.size + 1 + 1, 0, none⟩) 2 2, .slice none 0 0, .slice none 0 0, .slice none 0 0, .slice none 0 0, .slice none 0 0, .slice none 0 0, .string ⟨#[]⟩, .int .i64 0, .int .i64 0, .int .i64 0, .slice none 0 0, .string ⟨#[]⟩]) HZZ.out HBB.out HQ.out (by omega)
  rw [← HW9.out]
  clear HW9 HF HZZ HBB HQ
  have hld := run_loadVar_row (P := Tryz.prog) w9 w.heap.size 37 37 #[.int .i64 2, .slice (some ⟨w1.heap.size + 1 + 1, 0, none⟩) 2 2, .slice none 0 0, .slice none 0 0, .slice none 0 0, .slice none 0 0, .slice none 0 0, .slice none 0 0, .string ⟨#[]⟩, .int .i64 0, .int .i64 0, .int .i64 0, .slice none 0 0, .string ⟨#[]⟩] (0, 0) _ HK.out Tryz.underlying37 rfl (by kernel_rfl)
  have HLD := Lib.hid hld
  clear hld
  go_wp2
  (try simp only [Exit.inBlock, Exit.then])
  refine bodyPost_ret (v := .tuple #[.agg #[.int .i64 2, .slice (some ⟨w1.heap.size + 1 + 1, 0, none⟩) 2 2, .slice none 0 0, .slice none 0 0, .slice none 0 0, .slice none 0 0, .slice none 0 0, .slice none 0 0, .string ⟨#[]⟩, .int .i64 0, .int .i64 0, .int .i64 0, .slice none 0 0, .string ⟨#[]⟩], .bool true]) ?_ rfl ⟨_, rfl, HQ9.out, HB9.out, by omega⟩
  rw [results_cell_tmp rfl]
  simp [asAddr, Result.andThen, HLD.out]

set_option maxHeartbeats 1000000 in
set_option maxRecDepth 100000 in
theorem kind_lease (n1 n2 : Int) (w : World) : Calls Tryz.prog 122 #[.agg #[.int .i64 n1, .int .i64 n2]] w fun x w' => x = .returned (.int .i64 3) ∧ Below w.heap.size w w' := by
  go_enter Tryz.func122, Tryz.ntmps122
  go_wp2
  go_ret
  exact ⟨rfl, by go_grown⟩

set_option maxHeartbeats 4000000 in
set_option maxRecDepth 100000 in
theorem flat_lease (n1 n2 : Int) (w : World) :
    Calls Tryz.prog 7 #[.iface 61 (.agg #[.int .i64 n1, .int .i64 n2])] w fun x w' => ∃ q, x = .returned (.tuple #[.agg #[.int .i64 3, .slice (some ⟨q, 0, none⟩) 2 2, .slice none 0 0, .slice none 0 0, .slice none 0 0, .slice none 0 0, .slice none 0 0, .slice none 0 0, .string ⟨#[]⟩, .int .i64 0, .int .i64 0, .int .i64 0, .slice none 0 0, .string ⟨#[]⟩], .bool true]) ∧ w'.heap[q]? = some (.cells (intsA [n1, n2]) 3 (0, 0)) ∧ Below w.heap.size w w' ∧ w.heap.size ≤ q := by
  have hnn := not_nil
  have as0 := fun v W => Tryz.no_beat 61 v W (by decide)
  have as1 := fun v W => Tryz.no_join 61 v W (by decide)
  have as2 := fun v W => Tryz.yes_lease v W
  have HZ0 : Hid ((w.alloc (.cells #[.int .i64 0, .slice none 0 0, .slice none 0 0, .slice none 0 0, .slice none 0 0, .slice none 0 0, .slice none 0 0, .slice none 0 0, .string ⟨#[]⟩, .int .i64 0, .int .i64 0, .int .i64 0, .slice none 0 0, .string ⟨#[]⟩] 37)).heap[w.heap.size]? = some (.cells #[.int .i64 0, .slice none 0 0, .slice none 0 0, .slice none 0 0, .slice none 0 0, .slice none 0 0, .slice none 0 0, .slice none 0 0, .string ⟨#[]⟩, .int .i64 0, .int .i64 0, .int .i64 0, .slice none 0 0, .string ⟨#[]⟩] 37 (0, 0))) := Lib.hid (new_at rfl)
  have HB0 := Lib.hid ((Below.refl _ w).alloc (Nat.le_refl _) (.cells #[.int .i64 0, .slice none 0 0, .slice none 0 0, .slice none 0 0, .slice none 0 0, .slice none 0 0, .slice none 0 0, .slice none 0 0, .string ⟨#[]⟩, .int .i64 0, .int .i64 0, .int .i64 0, .slice none 0 0, .string ⟨#[]⟩] 37))
  go_enter Tryz.func7, Tryz.ntmps7
  go_wp2_with fail
  refine (kind_lease n1 n2 _).mono ?_
  rintro x w1 ⟨rfl, hb1⟩
  have hz1 := block_below HZ0.out hb1
  have hwb := HB0.out.trans (hb1.mono HB0.out.size)
  have hlt1 := lt_of_block hz1
  have HZ3 : (((w1.alloc (.cells #[.int .i64 3, .slice (some ⟨w1.heap.size + 1 + 1, 0, none⟩) 2 2, .slice none 0 0, .slice none 0 0, .slice none 0 0, .slice none 0 0, .slice none 0 0, .slice none 0 0, .string ⟨#[]⟩, .int .i64 0, .int .i64 0, .int .i64 0, .slice none 0 0, .string ⟨#[]⟩] 37)).alloc (.cells #[.int .i64 n1, .int .i64 n2] 61)).alloc (.cells #[.int .i64 n1, .int .i64 n2] 3)).heap[w.heap.size]? = some (.cells #[.int .i64 0, .slice none 0 0, .slice none 0 0, .slice none 0 0, .slice none 0 0, .slice none 0 0, .slice none 0 0, .slice none 0 0, .string ⟨#[]⟩, .int .i64 0, .int .i64 0, .int .i64 0, .slice none 0 0, .string ⟨#[]⟩] 37 (0, 0)) := block_below hz1 (((((Below.refl _ w1).alloc (Nat.le_refl _) _).alloc (by simp) _).alloc (by simp; omega) _))
  have HB3 : Below w.heap.size w (((w1.alloc (.cells #[.int .i64 3, .slice (some ⟨w1.heap.size + 1 + 1, 0, none⟩) 2 2, .slice none 0 0, .slice none 0 0, .slice none 0 0, .slice none 0 0, .slice none 0 0, .slice none 0 0, .string ⟨#[]⟩, .int .i64 0, .int .i64 0, .int .i64 0, .slice none 0 0, .string ⟨#[]⟩] 37)).alloc (.cells #[.int .i64 n1, .int .i64 n2] 61)).alloc (.cells #[.int .i64 n1, .int .i64 n2] 3)) := ((hwb.alloc hwb.size _).alloc (by have := hwb.size; simp; omega) _).alloc (by have := hwb.size; simp; omega) _
  have hf0 : (((w1.alloc (.cells #[.int .i64 3, .slice (some ⟨w1.heap.size + 1 + 1, 0, none⟩) 2 2, .slice none 0 0, .slice none 0 0, .slice none 0 0, .slice none 0 0, .slice none 0 0, .slice none 0 0, .string ⟨#[]⟩, .int .i64 0, .int .i64 0, .int .i64 0, .slice none 0 0, .string ⟨#[]⟩] 37)).alloc (.cells #[.int .i64 n1, .int .i64 n2] 61)).alloc (.cells #[.int .i64 n1, .int .i64 n2] 3)).heap[w1.heap.size]? = some (.cells #[.int .i64 3, .slice (some ⟨w1.heap.size + 1 + 1, 0, none⟩) 2 2, .slice none 0 0, .slice none 0 0, .slice none 0 0, .slice none 0 0, .slice none 0 0, .slice none 0 0, .string ⟨#[]⟩, .int .i64 0, .int .i64 0, .int .i64 0, .slice none 0 0, .string ⟨#[]⟩] 37 (0, 0)) := new_at3 rfl
  have HF : Hid ((((w1.alloc (.cells #[.int .i64 3, .slice (some ⟨w1.heap.size + 1 + 1, 0, none⟩) 2 2, .slice none 0 0, .slice none 0 0, .slice none 0 0, .slice none 0 0, .slice none 0 0, .slice none 0 0, .string ⟨#[]⟩, .int .i64 0, .int .i64 0, .int .i64 0, .slice none 0 0, .string ⟨#[]⟩] 37)).alloc (.cells #[.int .i64 n1, .int .i64 n2] 61)).alloc (.cells #[.int .i64 n1, .int .i64 n2] 3)).heap[w1.heap.size]? = some (.cells #[.int .i64 3, .slice (some ⟨w1.heap.size + 1 + 1, 0, none⟩) 2 2, .slice none 0 0, .slice none 0 0, .slice none 0 0, .slice none 0 0, .slice none 0 0, .slice none 0 0, .string ⟨#[]⟩, .int .i64 0, .int .i64 0, .int .i64 0, .slice none 0 0, .string ⟨#[]⟩] 37 (0, 0))) := Lib.hid (hf0)
  have HQ : Hid ((((w1.alloc (.cells #[.int .i64 3, .slice (some ⟨w1.heap.size + 1 + 1, 0, none⟩) 2 2, .slice none 0 0, .slice none 0 0, .slice none 0 0, .slice none 0 0, .slice none 0 0, .slice none 0 0, .string ⟨#[]⟩, .int .i64 0, .int .i64 0, .int .i64 0, .slice none 0 0, .string ⟨#[]⟩] 37)).alloc (.cells #[.int .i64 n1, .int .i64 n2] 61)).alloc (.cells #[.int .i64 n1, .int .i64 n2] 3)).heap[w1.heap.size + 1 + 1]? = some (.cells (intsA [n1, n2]) 3 (0, 0))) := Lib.hid (new_at (by simp))
  have HZZ : Hid ((((w1.alloc (.cells #[.int .i64 3, .slice (some ⟨w1.heap.size + 1 + 1, 0, none⟩) 2 2, .slice none 0 0, .slice none 0 0, .slice none 0 0, .slice none 0 0, .slice none 0 0, .slice none 0 0, .string ⟨#[]⟩, .int .i64 0, .int .i64 0, .int .i64 0, .slice none 0 0, .string ⟨#[]⟩] 37)).alloc (.cells #[.int .i64 n1, .int .i64 n2] 61)).alloc (.cells #[.int .i64 n1, .int .i64 n2] 3)).heap[w.heap.size]? = some (.cells #[.int .i64 0, .slice none 0 0, .slice none 0 0, .slice none 0 0, .slice none 0 0, .slice none 0 0, .slice none 0 0, .slice none 0 0, .string ⟨#[]⟩, .int .i64 0, .int .i64 0, .int .i64 0, .slice none 0 0, .string ⟨#[]⟩] 37 (0, 0))) := Lib.hid (HZ3)
  have HBB : Hid (Below w.heap.size w (((w1.alloc (.cells #[.int .i64 3, .slice (some ⟨w1.heap.size + 1 + 1, 0, none⟩) 2 2, .slice none 0 0, .slice none 0 0, .slice none 0 0, .slice none 0 0, .slice none 0 0, .slice none 0 0, .string ⟨#[]⟩, .int .i64 0, .int .i64 0, .int .i64 0, .slice none 0 0, .string ⟨#[]⟩] 37)).alloc (.cells #[.int .i64 n1, .int .i64 n2] 61)).alloc (.cells #[.int .i64 n1, .int .i64 n2] 3))) := Lib.hid (HB3)
  have hsz1 := hwb.size
  clear HZ3 HB3 hz1 hb1 hwb HZ0 HB0 hf0
  go_upto_region 57 with (fail)
  generalize (((w1.alloc (.cells #[.int .i64 3, .slice (some ⟨w1.heap.size + 1 + 1, 0, none⟩) 2 2, .slice none 0 0, .slice none 0 0, .slice none 0 0, .slice none 0 0, .slice none 0 0, .slice none 0 0, .string ⟨#[]⟩, .int .i64 0, .int .i64 0, .int .i64 0, .slice none 0 0, .string ⟨#[]⟩] 37)).alloc (.cells #[.int .i64 n1, .int .i64 n2] 61)).alloc (.cells #[.int .i64 n1, .int .i64 n2] 3)) = W9 at HF HQ HZZ HBB ⊢
  refine wp_region_lit ?_
  refine wpList_load_row rfl 37 (.tmp 4) rfl w1.heap.size rfl 37 #[.int .i64 3, .slice (some ⟨w1.heap.size + 1 + 1, 0, none⟩) 2 2, .slice none 0 0, .slice none 0 0, .slice none 0 0, .slice none 0 0, .slice none 0 0, .slice none 0 0, .string ⟨#[]⟩, .int .i64 0, .int .i64 0, .int .i64 0, .slice none 0 0, .string ⟨#[]⟩] (0, 0) _ HF.out Tryz.underlying37 rfl (by kernel_rfl) ?_
  refine wpList_store_row rfl 37 (.tmp 2) (.tmp 208) rfl w.heap.size #[.int .i64 3, .slice (some ⟨w1.heap.size + 1 + 1, 0, none⟩) 2 2, .slice none 0 0, .slice none 0 0, .slice none 0 0, .slice none 0 0, .slice none 0 0, .slice none 0 0, .string ⟨#[]⟩, .int .i64 0, .int .i64 0, .int .i64 0, .slice none 0 0, .string ⟨#[]⟩] rfl rfl 37 #[.int .i64 0, .slice none 0 0, .slice none 0 0, .slice none 0 0, .slice none 0 0, .slice none 0 0, .slice none 0 0, .slice none 0 0, .string ⟨#[]⟩, .int .i64 0, .int .i64 0, .int .i64 0, .slice none 0 0, .string ⟨#[]⟩] HZZ.out (by kernel_rfl) rfl (by simp [Value.oneCell']) ?_
  obtain ⟨w9, HW9, HK, HB9, HQ9⟩ := row14 (cs := #[.int .i64 3, .slice (some ⟨w1.heap.size + 1 + 1, 0, none⟩) 2 2, .slice none 0 0, .slice none 0 0, .slice none 0 0, .slice none 0 0, .slice none 0 0, .slice none 0 0, .string ⟨#[]⟩, .int .i64 0, .int .i64 0, .int .i64 0, .slice none 0 0, .string ⟨#[]⟩]) HZZ.out HBB.out HQ.out (by omega)
  rw [← HW9.out]
  clear HW9 HF HZZ HBB HQ
  have hld := run_loadVar_row (P := Tryz.prog) w9 w.heap.size 37 37 #[.int .i64 3, .slice (some ⟨w1.heap.size + 1 + 1, 0, none⟩) 2 2, .slice none 0 0, .slice none 0 0, .slice none 0 0, .slice none 0 0, .slice none 0 0, .slice none 0 0, .string ⟨#[]⟩, .int .i64 0, .int .i64 0, .int .i64 0, .slice none 0 0, .string ⟨#[]⟩] (0, 0) _ HK.out Tryz.underlying37 rfl (by kernel_rfl)
  have HLD := Lib.hid hld
  clear hld
  go_wp2
  (try simp only [Exit.inBlock, Exit.then])
  refine bodyPost_ret (v := .tuple #[.agg #[.int .i64 3, .slice (some ⟨w1.heap.size + 1 + 1, 0, none⟩) 2 2, .slice none 0 0, .slice none 0 0, .slice none 0 0, .slice none 0 0, .slice none 0 0, .slice none 0 0, .string ⟨#[]⟩, .int .i64 0, .int .i64 0, .int .i64 0, .slice none 0 0, .string ⟨#[]⟩], .bool true]) ?_ rfl ⟨_, rfl, HQ9.out, HB9.out, by omega⟩
  rw [results_cell_tmp rfl]
  simp [asAddr, Result.andThen, HLD.out]

set_option maxHeartbeats 1000000 in
set_option maxRecDepth 100000 in
theorem kind_view (n1 : Int) (v1 : Value) (v2 : Value) (v3 : Value) (w : World) (hf1 : ∃ a n c, v1 = .slice a n c) (hf2 : ∃ a n c, v2 = .slice a n c) (hf3 : ∃ a n c, v3 = .slice a n c) : Calls Tryz.prog 123 #[.agg #[.int .i64 n1, v1, v2, v3]] w fun x w' => x = .returned (.int .i64 4) ∧ Below w.heap.size w w' := by
  obtain ⟨a1, m1, c1, rfl⟩ := hf1
  obtain ⟨a2, m2, c2, rfl⟩ := hf2
  obtain ⟨a3, m3, c3, rfl⟩ := hf3
  go_enter Tryz.func123, Tryz.ntmps123
  go_wp2
  go_ret
  exact ⟨rfl, by go_grown⟩

set_option maxHeartbeats 4000000 in
set_option maxRecDepth 100000 in
theorem flat_view (n1 : Int) (v1 : Value) (v2 : Value) (v3 : Value) (w : World) (hf1 : ∃ a n c, v1 = .slice a n c) (hf2 : ∃ a n c, v2 = .slice a n c) (hf3 : ∃ a n c, v3 = .slice a n c) :
    Calls Tryz.prog 7 #[.iface 63 (.agg #[.int .i64 n1, v1, v2, v3])] w fun x w' => ∃ q, x = .returned (.tuple #[.agg #[.int .i64 4, .slice (some ⟨q, 0, none⟩) 1 1, v1, v2, v3, .slice none 0 0, .slice none 0 0, .slice none 0 0, .string ⟨#[]⟩, .int .i64 0, .int .i64 0, .int .i64 0, .slice none 0 0, .string ⟨#[]⟩], .bool true]) ∧ w'.heap[q]? = some (.cells (intsA [n1]) 3 (0, 0)) ∧ Below w.heap.size w w' ∧ w.heap.size ≤ q := by
  have hnn := not_nil
  have as0 := fun v W => Tryz.no_beat 63 v W (by decide)
  have as1 := fun v W => Tryz.no_join 63 v W (by decide)
  have as2 := fun v W => Tryz.no_lease 63 v W (by decide)
  have as3 := fun v W => Tryz.yes_view v W
  obtain ⟨a1, m1, c1, rfl⟩ := hf1
  obtain ⟨a2, m2, c2, rfl⟩ := hf2
  obtain ⟨a3, m3, c3, rfl⟩ := hf3
  have HZ0 : Hid ((w.alloc (.cells #[.int .i64 0, .slice none 0 0, .slice none 0 0, .slice none 0 0, .slice none 0 0, .slice none 0 0, .slice none 0 0, .slice none 0 0, .string ⟨#[]⟩, .int .i64 0, .int .i64 0, .int .i64 0, .slice none 0 0, .string ⟨#[]⟩] 37)).heap[w.heap.size]? = some (.cells #[.int .i64 0, .slice none 0 0, .slice none 0 0, .slice none 0 0, .slice none 0 0, .slice none 0 0, .slice none 0 0, .slice none 0 0, .string ⟨#[]⟩, .int .i64 0, .int .i64 0, .int .i64 0, .slice none 0 0, .string ⟨#[]⟩] 37 (0, 0))) := Lib.hid (new_at rfl)
  have HB0 := Lib.hid ((Below.refl _ w).alloc (Nat.le_refl _) (.cells #[.int .i64 0, .slice none 0 0, .slice none 0 0, .slice none 0 0, .slice none 0 0, .slice none 0 0, .slice none 0 0, .slice none 0 0, .string ⟨#[]⟩, .int .i64 0, .int .i64 0, .int .i64 0, .slice none 0 0, .string ⟨#[]⟩] 37))
  go_enter Tryz.func7, Tryz.ntmps7
  go_wp2_with fail
  refine (kind_view n1 _ _ _ _ ⟨_, _, _, rfl⟩ ⟨_, _, _, rfl⟩ ⟨_, _, _, rfl⟩).mono ?_
  rintro x w1 ⟨rfl, hb1⟩
  have hz1 := block_below HZ0.out hb1
  have hwb := HB0.out.trans (hb1.mono HB0.out.size)
  have hlt1 := lt_of_block hz1
  have HZ3 : (((w1.alloc (.cells #[.int .i64 4, .slice (some ⟨w1.heap.size + 1 + 1, 0, none⟩) 1 1, .slice a1 m1 c1, .slice a2 m2 c2, .slice a3 m3 c3, .slice none 0 0, .slice none 0 0, .slice none 0 0, .string ⟨#[]⟩, .int .i64 0, .int .i64 0, .int .i64 0, .slice none 0 0, .string ⟨#[]⟩] 37)).alloc (.cells #[.int .i64 n1, .slice a1 m1 c1, .slice a2 m2 c2, .slice a3 m3 c3] 63)).alloc (.cells #[.int .i64 n1] 3)).heap[w.heap.size]? = some (.cells #[.int .i64 0, .slice none 0 0, .slice none 0 0, .slice none 0 0, .slice none 0 0, .slice none 0 0, .slice none 0 0, .slice none 0 0, .string ⟨#[]⟩, .int .i64 0, .int .i64 0, .int .i64 0, .slice none 0 0, .string ⟨#[]⟩] 37 (0, 0)) := block_below hz1 (((((Below.refl _ w1).alloc (Nat.le_refl _) _).alloc (by simp) _).alloc (by simp; omega) _))
  have HB3 : Below w.heap.size w (((w1.alloc (.cells #[.int .i64 4, .slice (some ⟨w1.heap.size + 1 + 1, 0, none⟩) 1 1, .slice a1 m1 c1, .slice a2 m2 c2, .slice a3 m3 c3, .slice none 0 0, .slice none 0 0, .slice none 0 0, .string ⟨#[]⟩, .int .i64 0, .int .i64 0, .int .i64 0, .slice none 0 0, .string ⟨#[]⟩] 37)).alloc (.cells #[.int .i64 n1, .slice a1 m1 c1, .slice a2 m2 c2, .slice a3 m3 c3] 63)).alloc (.cells #[.int .i64 n1] 3)) := ((hwb.alloc hwb.size _).alloc (by have := hwb.size; simp; omega) _).alloc (by have := hwb.size; simp; omega) _
  have hf0 : (((w1.alloc (.cells #[.int .i64 4, .slice (some ⟨w1.heap.size + 1 + 1, 0, none⟩) 1 1, .slice a1 m1 c1, .slice a2 m2 c2, .slice a3 m3 c3, .slice none 0 0, .slice none 0 0, .slice none 0 0, .string ⟨#[]⟩, .int .i64 0, .int .i64 0, .int .i64 0, .slice none 0 0, .string ⟨#[]⟩] 37)).alloc (.cells #[.int .i64 n1, .slice a1 m1 c1, .slice a2 m2 c2, .slice a3 m3 c3] 63)).alloc (.cells #[.int .i64 n1] 3)).heap[w1.heap.size]? = some (.cells #[.int .i64 4, .slice (some ⟨w1.heap.size + 1 + 1, 0, none⟩) 1 1, .slice a1 m1 c1, .slice a2 m2 c2, .slice a3 m3 c3, .slice none 0 0, .slice none 0 0, .slice none 0 0, .string ⟨#[]⟩, .int .i64 0, .int .i64 0, .int .i64 0, .slice none 0 0, .string ⟨#[]⟩] 37 (0, 0)) := new_at3 rfl
  have HF : Hid ((((w1.alloc (.cells #[.int .i64 4, .slice (some ⟨w1.heap.size + 1 + 1, 0, none⟩) 1 1, .slice a1 m1 c1, .slice a2 m2 c2, .slice a3 m3 c3, .slice none 0 0, .slice none 0 0, .slice none 0 0, .string ⟨#[]⟩, .int .i64 0, .int .i64 0, .int .i64 0, .slice none 0 0, .string ⟨#[]⟩] 37)).alloc (.cells #[.int .i64 n1, .slice a1 m1 c1, .slice a2 m2 c2, .slice a3 m3 c3] 63)).alloc (.cells #[.int .i64 n1] 3)).heap[w1.heap.size]? = some (.cells #[.int .i64 4, .slice (some ⟨w1.heap.size + 1 + 1, 0, none⟩) 1 1, .slice a1 m1 c1, .slice a2 m2 c2, .slice a3 m3 c3, .slice none 0 0, .slice none 0 0, .slice none 0 0, .string ⟨#[]⟩, .int .i64 0, .int .i64 0, .int .i64 0, .slice none 0 0, .string ⟨#[]⟩] 37 (0, 0))) := Lib.hid (hf0)
  have HQ : Hid ((((w1.alloc (.cells #[.int .i64 4, .slice (some ⟨w1.heap.size + 1 + 1, 0, none⟩) 1 1, .slice a1 m1 c1, .slice a2 m2 c2, .slice a3 m3 c3, .slice none 0 0, .slice none 0 0, .slice none 0 0, .string ⟨#[]⟩, .int .i64 0, .int .i64 0, .int .i64 0, .slice none 0 0, .string ⟨#[]⟩] 37)).alloc (.cells #[.int .i64 n1, .slice a1 m1 c1, .slice a2 m2 c2, .slice a3 m3 c3] 63)).alloc (.cells #[.int .i64 n1] 3)).heap[w1.heap.size + 1 + 1]? = some (.cells (intsA [n1]) 3 (0, 0))) := Lib.hid (new_at (by simp))
  have HZZ : Hid ((((w1.alloc (.cells #[.int .i64 4, .slice (some ⟨w1.heap.size + 1 + 1, 0, none⟩) 1 1, .slice a1 m1 c1, .slice a2 m2 c2, .slice a3 m3 c3, .slice none 0 0, .slice none 0 0, .slice none 0 0, .string ⟨#[]⟩, .int .i64 0, .int .i64 0, .int .i64 0, .slice none 0 0, .string ⟨#[]⟩] 37)).alloc (.cells #[.int .i64 n1, .slice a1 m1 c1, .slice a2 m2 c2, .slice a3 m3 c3] 63)).alloc (.cells #[.int .i64 n1] 3)).heap[w.heap.size]? = some (.cells #[.int .i64 0, .slice none 0 0, .slice none 0 0, .slice none 0 0, .slice none 0 0, .slice none 0 0, .slice none 0 0, .slice none 0 0, .string ⟨#[]⟩, .int .i64 0, .int .i64 0, .int .i64 0, .slice none 0 0, .string ⟨#[]⟩] 37 (0, 0))) := Lib.hid (HZ3)
  have HBB : Hid (Below w.heap.size w (((w1.alloc (.cells #[.int .i64 4, .slice (some ⟨w1.heap.size + 1 + 1, 0, none⟩) 1 1, .slice a1 m1 c1, .slice a2 m2 c2, .slice a3 m3 c3, .slice none 0 0, .slice none 0 0, .slice none 0 0, .string ⟨#[]⟩, .int .i64 0, .int .i64 0, .int .i64 0, .slice none 0 0, .string ⟨#[]⟩] 37)).alloc (.cells #[.int .i64 n1, .slice a1 m1 c1, .slice a2 m2 c2, .slice a3 m3 c3] 63)).alloc (.cells #[.int .i64 n1] 3))) := Lib.hid (HB3)
  have hsz1 := hwb.size
  clear HZ3 HB3 hz1 hb1 hwb HZ0 HB0 hf0
  go_upto_region 57 with (fail)
  generalize (((w1.alloc (.cells #[.int .i64 4, .slice (some ⟨w1.heap.size + 1 + 1, 0, none⟩) 1 1, .slice a1 m1 c1, .slice a2 m2 c2, .slice a3 m3 c3, .slice none 0 0, .slice none 0 0, .slice none 0 0, .string ⟨#[]⟩, .int .i64 0, .int .i64 0, .int .i64 0, .slice none 0 0, .string ⟨#[]⟩] 37)).alloc (.cells #[.int .i64 n1, .slice a1 m1 c1, .slice a2 m2 c2, .slice a3 m3 c3] 63)).alloc (.cells #[.int .i64 n1] 3)) = W9 at HF HQ HZZ HBB ⊢
  refine wp_region_lit ?_
  refine wpList_load_row rfl 37 (.tmp 4) rfl w1.heap.size rfl 37 #[.int .i64 4, .slice (some ⟨w1.heap.size + 1 + 1, 0, none⟩) 1 1, .slice a1 m1 c1, .slice a2 m2 c2, .slice a3 m3 c3, .slice none 0 0, .slice none 0 0, .slice none 0 0, .string ⟨#[]⟩, .int .i64 0, .int .i64 0, .int .i64 0, .slice none 0 0, .string ⟨#[]⟩] (0, 0) _ HF.out Tryz.underlying37 rfl (by kernel_rfl) ?_
  refine wpList_store_row rfl 37 (.tmp 2) (.tmp 208) rfl w.heap.size #[.int .i64 4, .slice (some ⟨w1.heap.size + 1 + 1, 0, none⟩) 1 1, .slice a1 m1 c1, .slice a2 m2 c2, .slice a3 m3 c3, .slice none 0 0, .slice none 0 0, .slice none 0 0, .string ⟨#[]⟩, .int .i64 0, .int .i64 0, .int .i64 0, .slice none 0 0, .string ⟨#[]⟩] rfl rfl 37 #[.int .i64 0, .slice none 0 0, .slice none 0 0, .slice none 0 0, .slice none 0 0, .slice none 0 0, .slice none 0 0, .slice none 0 0, .string ⟨#[]⟩, .int .i64 0, .int .i64 0, .int .i64 0, .slice none 0 0, .string ⟨#[]⟩] HZZ.out (by kernel_rfl) rfl (by simp [Value.oneCell']) ?_
  obtain ⟨w9, HW9, HK, HB9, HQ9⟩ := row14 (cs := #[.int .i64 4, .slice (some ⟨w1.heap.size + 1 + 1, 0, none⟩) 1 1, .slice a1 m1 c1, .slice a2 m2 c2, .slice a3 m3 c3, .slice none 0 0, .slice none 0 0, .slice none 0 0, .string ⟨#[]⟩, .int .i64 0, .int .i64 0, .int .i64 0, .slice none 0 0, .string ⟨#[]⟩]) HZZ.out HBB.out HQ.out (by omega)
  rw [← HW9.out]
  clear HW9 HF HZZ HBB HQ
  have hld := run_loadVar_row (P := Tryz.prog) w9 w.heap.size 37 37 #[.int .i64 4, .slice (some ⟨w1.heap.size + 1 + 1, 0, none⟩) 1 1, .slice a1 m1 c1, .slice a2 m2 c2, .slice a3 m3 c3, .slice none 0 0, .slice none 0 0, .slice none 0 0, .string ⟨#[]⟩, .int .i64 0, .int .i64 0, .int .i64 0, .slice none 0 0, .string ⟨#[]⟩] (0, 0) _ HK.out Tryz.underlying37 rfl (by kernel_rfl)
  have HLD := Lib.hid hld
  clear hld
  go_wp2
  (try simp only [Exit.inBlock, Exit.then])
  refine bodyPost_ret (v := .tuple #[.agg #[.int .i64 4, .slice (some ⟨w1.heap.size + 1 + 1, 0, none⟩) 1 1, .slice a1 m1 c1, .slice a2 m2 c2, .slice a3 m3 c3, .slice none 0 0, .slice none 0 0, .slice none 0 0, .string ⟨#[]⟩, .int .i64 0, .int .i64 0, .int .i64 0, .slice none 0 0, .string ⟨#[]⟩], .bool true]) ?_ rfl ⟨_, rfl, HQ9.out, HB9.out, by omega⟩
  rw [results_cell_tmp rfl]
  simp [asAddr, Result.andThen, HLD.out]

set_option maxHeartbeats 1000000 in
set_option maxRecDepth 100000 in
theorem kind_where (n1 : Int) (w : World) : Calls Tryz.prog 124 #[.agg #[.int .i64 n1]] w fun x w' => x = .returned (.int .i64 5) ∧ Below w.heap.size w w' := by
  go_enter Tryz.func124, Tryz.ntmps124
  go_wp2
  go_ret
  exact ⟨rfl, by go_grown⟩

set_option maxHeartbeats 4000000 in
set_option maxRecDepth 100000 in
theorem flat_where (n1 : Int) (w : World) :
    Calls Tryz.prog 7 #[.iface 65 (.agg #[.int .i64 n1])] w fun x w' => ∃ q, x = .returned (.tuple #[.agg #[.int .i64 5, .slice (some ⟨q, 0, none⟩) 1 1, .slice none 0 0, .slice none 0 0, .slice none 0 0, .slice none 0 0, .slice none 0 0, .slice none 0 0, .string ⟨#[]⟩, .int .i64 0, .int .i64 0, .int .i64 0, .slice none 0 0, .string ⟨#[]⟩], .bool true]) ∧ w'.heap[q]? = some (.cells (intsA [n1]) 3 (0, 0)) ∧ Below w.heap.size w w' ∧ w.heap.size ≤ q := by
  have hnn := not_nil
  have as0 := fun v W => Tryz.no_beat 65 v W (by decide)
  have as1 := fun v W => Tryz.no_join 65 v W (by decide)
  have as2 := fun v W => Tryz.no_lease 65 v W (by decide)
  have as3 := fun v W => Tryz.no_view 65 v W (by decide)
  have as4 := fun v W => Tryz.yes_where v W
  have HZ0 : Hid ((w.alloc (.cells #[.int .i64 0, .slice none 0 0, .slice none 0 0, .slice none 0 0, .slice none 0 0, .slice none 0 0, .slice none 0 0, .slice none 0 0, .string ⟨#[]⟩, .int .i64 0, .int .i64 0, .int .i64 0, .slice none 0 0, .string ⟨#[]⟩] 37)).heap[w.heap.size]? = some (.cells #[.int .i64 0, .slice none 0 0, .slice none 0 0, .slice none 0 0, .slice none 0 0, .slice none 0 0, .slice none 0 0, .slice none 0 0, .string ⟨#[]⟩, .int .i64 0, .int .i64 0, .int .i64 0, .slice none 0 0, .string ⟨#[]⟩] 37 (0, 0))) := Lib.hid (new_at rfl)
  have HB0 := Lib.hid ((Below.refl _ w).alloc (Nat.le_refl _) (.cells #[.int .i64 0, .slice none 0 0, .slice none 0 0, .slice none 0 0, .slice none 0 0, .slice none 0 0, .slice none 0 0, .slice none 0 0, .string ⟨#[]⟩, .int .i64 0, .int .i64 0, .int .i64 0, .slice none 0 0, .string ⟨#[]⟩] 37))
  go_enter Tryz.func7, Tryz.ntmps7
  go_wp2_with fail
  refine (kind_where n1 _).mono ?_
  rintro x w1 ⟨rfl, hb1⟩
  have hz1 := block_below HZ0.out hb1
  have hwb := HB0.out.trans (hb1.mono HB0.out.size)
  have hlt1 := lt_of_block hz1
  have HZ3 : (((w1.alloc (.cells #[.int .i64 5, .slice (some ⟨w1.heap.size + 1 + 1, 0, none⟩) 1 1, .slice none 0 0, .slice none 0 0, .slice none 0 0, .slice none 0 0, .slice none 0 0, .slice none 0 0, .string ⟨#[]⟩, .int .i64 0, .int .i64 0, .int .i64 0, .slice none 0 0, .string ⟨#[]⟩] 37)).alloc (.cells #[.int .i64 n1] 65)).alloc (.cells #[.int .i64 n1] 3)).heap[w.heap.size]? = some (.cells #[.int .i64 0, .slice none 0 0, .slice none 0 0, .slice none 0 0, .slice none 0 0, .slice none 0 0, .slice none 0 0, .slice none 0 0, .string ⟨#[]⟩, .int .i64 0, .int .i64 0, .int .i64 0, .slice none 0 0, .string ⟨#[]⟩] 37 (0, 0)) := block_below hz1 (((((Below.refl _ w1).alloc (Nat.le_refl _) _).alloc (by simp) _).alloc (by simp; omega) _))
  have HB3 : Below w.heap.size w (((w1.alloc (.cells #[.int .i64 5, .slice (some ⟨w1.heap.size + 1 + 1, 0, none⟩) 1 1, .slice none 0 0, .slice none 0 0, .slice none 0 0, .slice none 0 0, .slice none 0 0, .slice none 0 0, .string ⟨#[]⟩, .int .i64 0, .int .i64 0, .int .i64 0, .slice none 0 0, .string ⟨#[]⟩] 37)).alloc (.cells #[.int .i64 n1] 65)).alloc (.cells #[.int .i64 n1] 3)) := ((hwb.alloc hwb.size _).alloc (by have := hwb.size; simp; omega) _).alloc (by have := hwb.size; simp; omega) _
  have hf0 : (((w1.alloc (.cells #[.int .i64 5, .slice (some ⟨w1.heap.size + 1 + 1, 0, none⟩) 1 1, .slice none 0 0, .slice none 0 0, .slice none 0 0, .slice none 0 0, .slice none 0 0, .slice none 0 0, .string ⟨#[]⟩, .int .i64 0, .int .i64 0, .int .i64 0, .slice none 0 0, .string ⟨#[]⟩] 37)).alloc (.cells #[.int .i64 n1] 65)).alloc (.cells #[.int .i64 n1] 3)).heap[w1.heap.size]? = some (.cells #[.int .i64 5, .slice (some ⟨w1.heap.size + 1 + 1, 0, none⟩) 1 1, .slice none 0 0, .slice none 0 0, .slice none 0 0, .slice none 0 0, .slice none 0 0, .slice none 0 0, .string ⟨#[]⟩, .int .i64 0, .int .i64 0, .int .i64 0, .slice none 0 0, .string ⟨#[]⟩] 37 (0, 0)) := new_at3 rfl
  have HF : Hid ((((w1.alloc (.cells #[.int .i64 5, .slice (some ⟨w1.heap.size + 1 + 1, 0, none⟩) 1 1, .slice none 0 0, .slice none 0 0, .slice none 0 0, .slice none 0 0, .slice none 0 0, .slice none 0 0, .string ⟨#[]⟩, .int .i64 0, .int .i64 0, .int .i64 0, .slice none 0 0, .string ⟨#[]⟩] 37)).alloc (.cells #[.int .i64 n1] 65)).alloc (.cells #[.int .i64 n1] 3)).heap[w1.heap.size]? = some (.cells #[.int .i64 5, .slice (some ⟨w1.heap.size + 1 + 1, 0, none⟩) 1 1, .slice none 0 0, .slice none 0 0, .slice none 0 0, .slice none 0 0, .slice none 0 0, .slice none 0 0, .string ⟨#[]⟩, .int .i64 0, .int .i64 0, .int .i64 0, .slice none 0 0, .string ⟨#[]⟩] 37 (0, 0))) := Lib.hid (hf0)
  have HQ : Hid ((((w1.alloc (.cells #[.int .i64 5, .slice (some ⟨w1.heap.size + 1 + 1, 0, none⟩) 1 1, .slice none 0 0, .slice none 0 0, .slice none 0 0, .slice none 0 0, .slice none 0 0, .slice none 0 0, .string ⟨#[]⟩, .int .i64 0, .int .i64 0, .int .i64 0, .slice none 0 0, .string ⟨#[]⟩] 37)).alloc (.cells #[.int .i64 n1] 65)).alloc (.cells #[.int .i64 n1] 3)).heap[w1.heap.size + 1 + 1]? = some (.cells (intsA [n1]) 3 (0, 0))) := Lib.hid (new_at (by simp))
  have HZZ : Hid ((((w1.alloc (.cells #[.int .i64 5, .slice (some ⟨w1.heap.size + 1 + 1, 0, none⟩) 1 1, .slice none 0 0, .slice none 0 0, .slice none 0 0, .slice none 0 0, .slice none 0 0, .slice none 0 0, .string ⟨#[]⟩, .int .i64 0, .int .i64 0, .int .i64 0, .slice none 0 0, .string ⟨#[]⟩] 37)).alloc (.cells #[.int .i64 n1] 65)).alloc (.cells #[.int .i64 n1] 3)).heap[w.heap.size]? = some (.cells #[.int .i64 0, .slice none 0 0, .slice none 0 0, .slice none 0 0, .slice none 0 0, .slice none 0 0, .slice none 0 0, .slice none 0 0, .string ⟨#[]⟩, .int .i64 0, .int .i64 0, .int .i64 0, .slice none 0 0, .string ⟨#[]⟩] 37 (0, 0))) := Lib.hid (HZ3)
  have HBB : Hid (Below w.heap.size w (((w1.alloc (.cells #[.int .i64 5, .slice (some ⟨w1.heap.size + 1 + 1, 0, none⟩) 1 1, .slice none 0 0, .slice none 0 0, .slice none 0 0, .slice none 0 0, .slice none 0 0, .slice none 0 0, .string ⟨#[]⟩, .int .i64 0, .int .i64 0, .int .i64 0, .slice none 0 0, .string ⟨#[]⟩] 37)).alloc (.cells #[.int .i64 n1] 65)).alloc (.cells #[.int .i64 n1] 3))) := Lib.hid (HB3)
  have hsz1 := hwb.size
  clear HZ3 HB3 hz1 hb1 hwb HZ0 HB0 hf0
  go_upto_region 57 with (fail)
  generalize (((w1.alloc (.cells #[.int .i64 5, .slice (some ⟨w1.heap.size + 1 + 1, 0, none⟩) 1 1, .slice none 0 0, .slice none 0 0, .slice none 0 0, .slice none 0 0, .slice none 0 0, .slice none 0 0, .string ⟨#[]⟩, .int .i64 0, .int .i64 0, .int .i64 0, .slice none 0 0, .string ⟨#[]⟩] 37)).alloc (.cells #[.int .i64 n1] 65)).alloc (.cells #[.int .i64 n1] 3)) = W9 at HF HQ HZZ HBB ⊢
  refine wp_region_lit ?_
  refine wpList_load_row rfl 37 (.tmp 4) rfl w1.heap.size rfl 37 #[.int .i64 5, .slice (some ⟨w1.heap.size + 1 + 1, 0, none⟩) 1 1, .slice none 0 0, .slice none 0 0, .slice none 0 0, .slice none 0 0, .slice none 0 0, .slice none 0 0, .string ⟨#[]⟩, .int .i64 0, .int .i64 0, .int .i64 0, .slice none 0 0, .string ⟨#[]⟩] (0, 0) _ HF.out Tryz.underlying37 rfl (by kernel_rfl) ?_
  refine wpList_store_row rfl 37 (.tmp 2) (.tmp 208) rfl w.heap.size #[.int .i64 5, .slice (some ⟨w1.heap.size + 1 + 1, 0, none⟩) 1 1, .slice none 0 0, .slice none 0 0, .slice none 0 0, .slice none 0 0, .slice none 0 0, .slice none 0 0, .string ⟨#[]⟩, .int .i64 0, .int .i64 0, .int .i64 0, .slice none 0 0, .string ⟨#[]⟩] rfl rfl 37 #[.int .i64 0, .slice none 0 0, .slice none 0 0, .slice none 0 0, .slice none 0 0, .slice none 0 0, .slice none 0 0, .slice none 0 0, .string ⟨#[]⟩, .int .i64 0, .int .i64 0, .int .i64 0, .slice none 0 0, .string ⟨#[]⟩] HZZ.out (by kernel_rfl) rfl (by simp [Value.oneCell']) ?_
  obtain ⟨w9, HW9, HK, HB9, HQ9⟩ := row14 (cs := #[.int .i64 5, .slice (some ⟨w1.heap.size + 1 + 1, 0, none⟩) 1 1, .slice none 0 0, .slice none 0 0, .slice none 0 0, .slice none 0 0, .slice none 0 0, .slice none 0 0, .string ⟨#[]⟩, .int .i64 0, .int .i64 0, .int .i64 0, .slice none 0 0, .string ⟨#[]⟩]) HZZ.out HBB.out HQ.out (by omega)
  rw [← HW9.out]
  clear HW9 HF HZZ HBB HQ
  have hld := run_loadVar_row (P := Tryz.prog) w9 w.heap.size 37 37 #[.int .i64 5, .slice (some ⟨w1.heap.size + 1 + 1, 0, none⟩) 1 1, .slice none 0 0, .slice none 0 0, .slice none 0 0, .slice none 0 0, .slice none 0 0, .slice none 0 0, .string ⟨#[]⟩, .int .i64 0, .int .i64 0, .int .i64 0, .slice none 0 0, .string ⟨#[]⟩] (0, 0) _ HK.out Tryz.underlying37 rfl (by kernel_rfl)
  have HLD := Lib.hid hld
  clear hld
  go_wp2
  (try simp only [Exit.inBlock, Exit.then])
  refine bodyPost_ret (v := .tuple #[.agg #[.int .i64 5, .slice (some ⟨w1.heap.size + 1 + 1, 0, none⟩) 1 1, .slice none 0 0, .slice none 0 0, .slice none 0 0, .slice none 0 0, .slice none 0 0, .slice none 0 0, .string ⟨#[]⟩, .int .i64 0, .int .i64 0, .int .i64 0, .slice none 0 0, .string ⟨#[]⟩], .bool true]) ?_ rfl ⟨_, rfl, HQ9.out, HB9.out, by omega⟩
  rw [results_cell_tmp rfl]
  simp [asAddr, Result.andThen, HLD.out]

set_option maxHeartbeats 1000000 in
set_option maxRecDepth 100000 in
theorem kind_have (n1 n2 n3 : Int) (v1 : Value) (w : World) (hf1 : ∃ a n c, v1 = .slice a n c) : Calls Tryz.prog 125 #[.agg #[.int .i64 n1, .int .i64 n2, .int .i64 n3, v1]] w fun x w' => x = .returned (.int .i64 6) ∧ Below w.heap.size w w' := by
  obtain ⟨a1, m1, c1, rfl⟩ := hf1
  go_enter Tryz.func125, Tryz.ntmps125
  go_wp2
  go_ret
  exact ⟨rfl, by go_grown⟩

set_option maxHeartbeats 4000000 in
set_option maxRecDepth 100000 in
theorem flat_have (n1 n2 n3 : Int) (v1 : Value) (w : World) (hf1 : ∃ a n c, v1 = .slice a n c) :
    Calls Tryz.prog 7 #[.iface 67 (.agg #[.int .i64 n1, .int .i64 n2, .int .i64 n3, v1])] w fun x w' => ∃ q, x = .returned (.tuple #[.agg #[.int .i64 6, .slice (some ⟨q, 0, none⟩) 3 3, .slice none 0 0, .slice none 0 0, .slice none 0 0, v1, .slice none 0 0, .slice none 0 0, .string ⟨#[]⟩, .int .i64 0, .int .i64 0, .int .i64 0, .slice none 0 0, .string ⟨#[]⟩], .bool true]) ∧ w'.heap[q]? = some (.cells (intsA [n1, n2, n3]) 3 (0, 0)) ∧ Below w.heap.size w w' ∧ w.heap.size ≤ q := by
  have hnn := not_nil
  have as0 := fun v W => Tryz.no_beat 67 v W (by decide)
  have as1 := fun v W => Tryz.no_join 67 v W (by decide)
  have as2 := fun v W => Tryz.no_lease 67 v W (by decide)
  have as3 := fun v W => Tryz.no_view 67 v W (by decide)
  have as4 := fun v W => Tryz.no_where 67 v W (by decide)
  have as5 := fun v W => Tryz.yes_have v W
  obtain ⟨a1, m1, c1, rfl⟩ := hf1
  have HZ0 : Hid ((w.alloc (.cells #[.int .i64 0, .slice none 0 0, .slice none 0 0, .slice none 0 0, .slice none 0 0, .slice none 0 0, .slice none 0 0, .slice none 0 0, .string ⟨#[]⟩, .int .i64 0, .int .i64 0, .int .i64 0, .slice none 0 0, .string ⟨#[]⟩] 37)).heap[w.heap.size]? = some (.cells #[.int .i64 0, .slice none 0 0, .slice none 0 0, .slice none 0 0, .slice none 0 0, .slice none 0 0, .slice none 0 0, .slice none 0 0, .string ⟨#[]⟩, .int .i64 0, .int .i64 0, .int .i64 0, .slice none 0 0, .string ⟨#[]⟩] 37 (0, 0))) := Lib.hid (new_at rfl)
  have HB0 := Lib.hid ((Below.refl _ w).alloc (Nat.le_refl _) (.cells #[.int .i64 0, .slice none 0 0, .slice none 0 0, .slice none 0 0, .slice none 0 0, .slice none 0 0, .slice none 0 0, .slice none 0 0, .string ⟨#[]⟩, .int .i64 0, .int .i64 0, .int .i64 0, .slice none 0 0, .string ⟨#[]⟩] 37))
  go_enter Tryz.func7, Tryz.ntmps7
  go_wp2_with fail
  refine (kind_have n1 n2 n3 _ _ ⟨_, _, _, rfl⟩).mono ?_
  rintro x w1 ⟨rfl, hb1⟩
  have hz1 := block_below HZ0.out hb1
  have hwb := HB0.out.trans (hb1.mono HB0.out.size)
  have hlt1 := lt_of_block hz1
  have HZ3 : (((w1.alloc (.cells #[.int .i64 6, .slice (some ⟨w1.heap.size + 1 + 1, 0, none⟩) 3 3, .slice none 0 0, .slice none 0 0, .slice none 0 0, .slice a1 m1 c1, .slice none 0 0, .slice none 0 0, .string ⟨#[]⟩, .int .i64 0, .int .i64 0, .int .i64 0, .slice none 0 0, .string ⟨#[]⟩] 37)).alloc (.cells #[.int .i64 n1, .int .i64 n2, .int .i64 n3, .slice a1 m1 c1] 67)).alloc (.cells #[.int .i64 n1, .int .i64 n2, .int .i64 n3] 3)).heap[w.heap.size]? = some (.cells #[.int .i64 0, .slice none 0 0, .slice none 0 0, .slice none 0 0, .slice none 0 0, .slice none 0 0, .slice none 0 0, .slice none 0 0, .string ⟨#[]⟩, .int .i64 0, .int .i64 0, .int .i64 0, .slice none 0 0, .string ⟨#[]⟩] 37 (0, 0)) := block_below hz1 (((((Below.refl _ w1).alloc (Nat.le_refl _) _).alloc (by simp) _).alloc (by simp; omega) _))
  have HB3 : Below w.heap.size w (((w1.alloc (.cells #[.int .i64 6, .slice (some ⟨w1.heap.size + 1 + 1, 0, none⟩) 3 3, .slice none 0 0, .slice none 0 0, .slice none 0 0, .slice a1 m1 c1, .slice none 0 0, .slice none 0 0, .string ⟨#[]⟩, .int .i64 0, .int .i64 0, .int .i64 0, .slice none 0 0, .string ⟨#[]⟩] 37)).alloc (.cells #[.int .i64 n1, .int .i64 n2, .int .i64 n3, .slice a1 m1 c1] 67)).alloc (.cells #[.int .i64 n1, .int .i64 n2, .int .i64 n3] 3)) := ((hwb.alloc hwb.size _).alloc (by have := hwb.size; simp; omega) _).alloc (by have := hwb.size; simp; omega) _
  have hf0 : (((w1.alloc (.cells #[.int .i64 6, .slice (some ⟨w1.heap.size + 1 + 1, 0, none⟩) 3 3, .slice none 0 0, .slice none 0 0, .slice none 0 0, .slice a1 m1 c1, .slice none 0 0, .slice none 0 0, .string ⟨#[]⟩, .int .i64 0, .int .i64 0, .int .i64 0, .slice none 0 0, .string ⟨#[]⟩] 37)).alloc (.cells #[.int .i64 n1, .int .i64 n2, .int .i64 n3, .slice a1 m1 c1] 67)).alloc (.cells #[.int .i64 n1, .int .i64 n2, .int .i64 n3] 3)).heap[w1.heap.size]? = some (.cells #[.int .i64 6, .slice (some ⟨w1.heap.size + 1 + 1, 0, none⟩) 3 3, .slice none 0 0, .slice none 0 0, .slice none 0 0, .slice a1 m1 c1, .slice none 0 0, .slice none 0 0, .string ⟨#[]⟩, .int .i64 0, .int .i64 0, .int .i64 0, .slice none 0 0, .string ⟨#[]⟩] 37 (0, 0)) := new_at3 rfl
  have HF : Hid ((((w1.alloc (.cells #[.int .i64 6, .slice (some ⟨w1.heap.size + 1 + 1, 0, none⟩) 3 3, .slice none 0 0, .slice none 0 0, .slice none 0 0, .slice a1 m1 c1, .slice none 0 0, .slice none 0 0, .string ⟨#[]⟩, .int .i64 0, .int .i64 0, .int .i64 0, .slice none 0 0, .string ⟨#[]⟩] 37)).alloc (.cells #[.int .i64 n1, .int .i64 n2, .int .i64 n3, .slice a1 m1 c1] 67)).alloc (.cells #[.int .i64 n1, .int .i64 n2, .int .i64 n3] 3)).heap[w1.heap.size]? = some (.cells #[.int .i64 6, .slice (some ⟨w1.heap.size + 1 + 1, 0, none⟩) 3 3, .slice none 0 0, .slice none 0 0, .slice none 0 0, .slice a1 m1 c1, .slice none 0 0, .slice none 0 0, .string ⟨#[]⟩, .int .i64 0, .int .i64 0, .int .i64 0, .slice none 0 0, .string ⟨#[]⟩] 37 (0, 0))) := Lib.hid (hf0)
  have HQ : Hid ((((w1.alloc (.cells #[.int .i64 6, .slice (some ⟨w1.heap.size + 1 + 1, 0, none⟩) 3 3, .slice none 0 0, .slice none 0 0, .slice none 0 0, .slice a1 m1 c1, .slice none 0 0, .slice none 0 0, .string ⟨#[]⟩, .int .i64 0, .int .i64 0, .int .i64 0, .slice none 0 0, .string ⟨#[]⟩] 37)).alloc (.cells #[.int .i64 n1, .int .i64 n2, .int .i64 n3, .slice a1 m1 c1] 67)).alloc (.cells #[.int .i64 n1, .int .i64 n2, .int .i64 n3] 3)).heap[w1.heap.size + 1 + 1]? = some (.cells (intsA [n1, n2, n3]) 3 (0, 0))) := Lib.hid (new_at (by simp))
  have HZZ : Hid ((((w1.alloc (.cells #[.int .i64 6, .slice (some ⟨w1.heap.size + 1 + 1, 0, none⟩) 3 3, .slice none 0 0, .slice none 0 0, .slice none 0 0, .slice a1 m1 c1, .slice none 0 0, .slice none 0 0, .string ⟨#[]⟩, .int .i64 0, .int .i64 0, .int .i64 0, .slice none 0 0, .string ⟨#[]⟩] 37)).alloc (.cells #[.int .i64 n1, .int .i64 n2, .int .i64 n3, .slice a1 m1 c1] 67)).alloc (.cells #[.int .i64 n1, .int .i64 n2, .int .i64 n3] 3)).heap[w.heap.size]? = some (.cells #[.int .i64 0, .slice none 0 0, .slice none 0 0, .slice none 0 0, .slice none 0 0, .slice none 0 0, .slice none 0 0, .slice none 0 0, .string ⟨#[]⟩, .int .i64 0, .int .i64 0, .int .i64 0, .slice none 0 0, .string ⟨#[]⟩] 37 (0, 0))) := Lib.hid (HZ3)
  have HBB : Hid (Below w.heap.size w (((w1.alloc (.cells #[.int .i64 6, .slice (some ⟨w1.heap.size + 1 + 1, 0, none⟩) 3 3, .slice none 0 0, .slice none 0 0, .slice none 0 0, .slice a1 m1 c1, .slice none 0 0, .slice none 0 0, .string ⟨#[]⟩, .int .i64 0, .int .i64 0, .int .i64 0, .slice none 0 0, .string ⟨#[]⟩] 37)).alloc (.cells #[.int .i64 n1, .int .i64 n2, .int .i64 n3, .slice a1 m1 c1] 67)).alloc (.cells #[.int .i64 n1, .int .i64 n2, .int .i64 n3] 3))) := Lib.hid (HB3)
  have hsz1 := hwb.size
  clear HZ3 HB3 hz1 hb1 hwb HZ0 HB0 hf0
  go_upto_region 57 with (fail)
  generalize (((w1.alloc (.cells #[.int .i64 6, .slice (some ⟨w1.heap.size + 1 + 1, 0, none⟩) 3 3, .slice none 0 0, .slice none 0 0, .slice none 0 0, .slice a1 m1 c1, .slice none 0 0, .slice none 0 0, .string ⟨#[]⟩, .int .i64 0, .int .i64 0, .int .i64 0, .slice none 0 0, .string ⟨#[]⟩] 37)).alloc (.cells #[.int .i64 n1, .int .i64 n2, .int .i64 n3, .slice a1 m1 c1] 67)).alloc (.cells #[.int .i64 n1, .int .i64 n2, .int .i64 n3] 3)) = W9 at HF HQ HZZ HBB ⊢
  refine wp_region_lit ?_
  refine wpList_load_row rfl 37 (.tmp 4) rfl w1.heap.size rfl 37 #[.int .i64 6, .slice (some ⟨w1.heap.size + 1 + 1, 0, none⟩) 3 3, .slice none 0 0, .slice none 0 0, .slice none 0 0, .slice a1 m1 c1, .slice none 0 0, .slice none 0 0, .string ⟨#[]⟩, .int .i64 0, .int .i64 0, .int .i64 0, .slice none 0 0, .string ⟨#[]⟩] (0, 0) _ HF.out Tryz.underlying37 rfl (by kernel_rfl) ?_
  refine wpList_store_row rfl 37 (.tmp 2) (.tmp 208) rfl w.heap.size #[.int .i64 6, .slice (some ⟨w1.heap.size + 1 + 1, 0, none⟩) 3 3, .slice none 0 0, .slice none 0 0, .slice none 0 0, .slice a1 m1 c1, .slice none 0 0, .slice none 0 0, .string ⟨#[]⟩, .int .i64 0, .int .i64 0, .int .i64 0, .slice none 0 0, .string ⟨#[]⟩] rfl rfl 37 #[.int .i64 0, .slice none 0 0, .slice none 0 0, .slice none 0 0, .slice none 0 0, .slice none 0 0, .slice none 0 0, .slice none 0 0, .string ⟨#[]⟩, .int .i64 0, .int .i64 0, .int .i64 0, .slice none 0 0, .string ⟨#[]⟩] HZZ.out (by kernel_rfl) rfl (by simp [Value.oneCell']) ?_
  obtain ⟨w9, HW9, HK, HB9, HQ9⟩ := row14 (cs := #[.int .i64 6, .slice (some ⟨w1.heap.size + 1 + 1, 0, none⟩) 3 3, .slice none 0 0, .slice none 0 0, .slice none 0 0, .slice a1 m1 c1, .slice none 0 0, .slice none 0 0, .string ⟨#[]⟩, .int .i64 0, .int .i64 0, .int .i64 0, .slice none 0 0, .string ⟨#[]⟩]) HZZ.out HBB.out HQ.out (by omega)
  rw [← HW9.out]
  clear HW9 HF HZZ HBB HQ
  have hld := run_loadVar_row (P := Tryz.prog) w9 w.heap.size 37 37 #[.int .i64 6, .slice (some ⟨w1.heap.size + 1 + 1, 0, none⟩) 3 3, .slice none 0 0, .slice none 0 0, .slice none 0 0, .slice a1 m1 c1, .slice none 0 0, .slice none 0 0, .string ⟨#[]⟩, .int .i64 0, .int .i64 0, .int .i64 0, .slice none 0 0, .string ⟨#[]⟩] (0, 0) _ HK.out Tryz.underlying37 rfl (by kernel_rfl)
  have HLD := Lib.hid hld
  clear hld
  go_wp2
  (try simp only [Exit.inBlock, Exit.then])
  refine bodyPost_ret (v := .tuple #[.agg #[.int .i64 6, .slice (some ⟨w1.heap.size + 1 + 1, 0, none⟩) 3 3, .slice none 0 0, .slice none 0 0, .slice none 0 0, .slice a1 m1 c1, .slice none 0 0, .slice none 0 0, .string ⟨#[]⟩, .int .i64 0, .int .i64 0, .int .i64 0, .slice none 0 0, .string ⟨#[]⟩], .bool true]) ?_ rfl ⟨_, rfl, HQ9.out, HB9.out, by omega⟩
  rw [results_cell_tmp rfl]
  simp [asAddr, Result.andThen, HLD.out]

set_option maxHeartbeats 1000000 in
set_option maxRecDepth 100000 in
theorem kind_logs (n1 n2 n3 n4 n5 n6 : Int) (v1 : Value) (w : World) (hf1 : ∃ a n c, v1 = .slice a n c) : Calls Tryz.prog 126 #[.agg #[.int .i64 n1, .int .i64 n2, .int .i64 n3, .int .i64 n4, .int .i64 n5, .int .i64 n6, v1]] w fun x w' => x = .returned (.int .i64 7) ∧ Below w.heap.size w w' := by
  obtain ⟨a1, m1, c1, rfl⟩ := hf1
  go_enter Tryz.func126, Tryz.ntmps126
  go_wp2
  go_ret
  exact ⟨rfl, by go_grown⟩

set_option maxHeartbeats 4000000 in
set_option maxRecDepth 100000 in
theorem flat_logs (n1 n2 n3 n4 n5 n6 : Int) (v1 : Value) (w : World) (hf1 : ∃ a n c, v1 = .slice a n c) :
    Calls Tryz.prog 7 #[.iface 69 (.agg #[.int .i64 n1, .int .i64 n2, .int .i64 n3, .int .i64 n4, .int .i64 n5, .int .i64 n6, v1])] w fun x w' => ∃ q, x = .returned (.tuple #[.agg #[.int .i64 7, .slice (some ⟨q, 0, none⟩) 6 6, .slice none 0 0, .slice none 0 0, .slice none 0 0, .slice none 0 0, v1, .slice none 0 0, .string ⟨#[]⟩, .int .i64 0, .int .i64 0, .int .i64 0, .slice none 0 0, .string ⟨#[]⟩], .bool true]) ∧ w'.heap[q]? = some (.cells (intsA [n1, n2, n3, n4, n5, n6]) 3 (0, 0)) ∧ Below w.heap.size w w' ∧ w.heap.size ≤ q := by
  have hnn := not_nil
  have as0 := fun v W => Tryz.no_beat 69 v W (by decide)
  have as1 := fun v W => Tryz.no_join 69 v W (by decide)
  have as2 := fun v W => Tryz.no_lease 69 v W (by decide)
  have as3 := fun v W => Tryz.no_view 69 v W (by decide)
  have as4 := fun v W => Tryz.no_where 69 v W (by decide)
  have as5 := fun v W => Tryz.no_have 69 v W (by decide)
  have as6 := fun v W => Tryz.yes_logs v W
  obtain ⟨a1, m1, c1, rfl⟩ := hf1
  have HZ0 : Hid ((w.alloc (.cells #[.int .i64 0, .slice none 0 0, .slice none 0 0, .slice none 0 0, .slice none 0 0, .slice none 0 0, .slice none 0 0, .slice none 0 0, .string ⟨#[]⟩, .int .i64 0, .int .i64 0, .int .i64 0, .slice none 0 0, .string ⟨#[]⟩] 37)).heap[w.heap.size]? = some (.cells #[.int .i64 0, .slice none 0 0, .slice none 0 0, .slice none 0 0, .slice none 0 0, .slice none 0 0, .slice none 0 0, .slice none 0 0, .string ⟨#[]⟩, .int .i64 0, .int .i64 0, .int .i64 0, .slice none 0 0, .string ⟨#[]⟩] 37 (0, 0))) := Lib.hid (new_at rfl)
  have HB0 := Lib.hid ((Below.refl _ w).alloc (Nat.le_refl _) (.cells #[.int .i64 0, .slice none 0 0, .slice none 0 0, .slice none 0 0, .slice none 0 0, .slice none 0 0, .slice none 0 0, .slice none 0 0, .string ⟨#[]⟩, .int .i64 0, .int .i64 0, .int .i64 0, .slice none 0 0, .string ⟨#[]⟩] 37))
  go_enter Tryz.func7, Tryz.ntmps7
  go_wp2_with fail
  refine (kind_logs n1 n2 n3 n4 n5 n6 _ _ ⟨_, _, _, rfl⟩).mono ?_
  rintro x w1 ⟨rfl, hb1⟩
  have hz1 := block_below HZ0.out hb1
  have hwb := HB0.out.trans (hb1.mono HB0.out.size)
  have hlt1 := lt_of_block hz1
  have HZ3 : (((w1.alloc (.cells #[.int .i64 7, .slice (some ⟨w1.heap.size + 1 + 1, 0, none⟩) 6 6, .slice none 0 0, .slice none 0 0, .slice none 0 0, .slice none 0 0, .slice a1 m1 c1, .slice none 0 0, .string ⟨#[]⟩, .int .i64 0, .int .i64 0, .int .i64 0, .slice none 0 0, .string ⟨#[]⟩] 37)).alloc (.cells #[.int .i64 n1, .int .i64 n2, .int .i64 n3, .int .i64 n4, .int .i64 n5, .int .i64 n6, .slice a1 m1 c1] 69)).alloc (.cells #[.int .i64 n1, .int .i64 n2, .int .i64 n3, .int .i64 n4, .int .i64 n5, .int .i64 n6] 3)).heap[w.heap.size]? = some (.cells #[.int .i64 0, .slice none 0 0, .slice none 0 0, .slice none 0 0, .slice none 0 0, .slice none 0 0, .slice none 0 0, .slice none 0 0, .string ⟨#[]⟩, .int .i64 0, .int .i64 0, .int .i64 0, .slice none 0 0, .string ⟨#[]⟩] 37 (0, 0)) := block_below hz1 (((((Below.refl _ w1).alloc (Nat.le_refl _) _).alloc (by simp) _).alloc (by simp; omega) _))
  have HB3 : Below w.heap.size w (((w1.alloc (.cells #[.int .i64 7, .slice (some ⟨w1.heap.size + 1 + 1, 0, none⟩) 6 6, .slice none 0 0, .slice none 0 0, .slice none 0 0, .slice none 0 0, .slice a1 m1 c1, .slice none 0 0, .string ⟨#[]⟩, .int .i64 0, .int .i64 0, .int .i64 0, .slice none 0 0, .string ⟨#[]⟩] 37)).alloc (.cells #[.int .i64 n1, .int .i64 n2, .int .i64 n3, .int .i64 n4, .int .i64 n5, .int .i64 n6, .slice a1 m1 c1] 69)).alloc (.cells #[.int .i64 n1, .int .i64 n2, .int .i64 n3, .int .i64 n4, .int .i64 n5, .int .i64 n6] 3)) := ((hwb.alloc hwb.size _).alloc (by have := hwb.size; simp; omega) _).alloc (by have := hwb.size; simp; omega) _
  have hf0 : (((w1.alloc (.cells #[.int .i64 7, .slice (some ⟨w1.heap.size + 1 + 1, 0, none⟩) 6 6, .slice none 0 0, .slice none 0 0, .slice none 0 0, .slice none 0 0, .slice a1 m1 c1, .slice none 0 0, .string ⟨#[]⟩, .int .i64 0, .int .i64 0, .int .i64 0, .slice none 0 0, .string ⟨#[]⟩] 37)).alloc (.cells #[.int .i64 n1, .int .i64 n2, .int .i64 n3, .int .i64 n4, .int .i64 n5, .int .i64 n6, .slice a1 m1 c1] 69)).alloc (.cells #[.int .i64 n1, .int .i64 n2, .int .i64 n3, .int .i64 n4, .int .i64 n5, .int .i64 n6] 3)).heap[w1.heap.size]? = some (.cells #[.int .i64 7, .slice (some ⟨w1.heap.size + 1 + 1, 0, none⟩) 6 6, .slice none 0 0, .slice none 0 0, .slice none 0 0, .slice none 0 0, .slice a1 m1 c1, .slice none 0 0, .string ⟨#[]⟩, .int .i64 0, .int .i64 0, .int .i64 0, .slice none 0 0, .string ⟨#[]⟩] 37 (0, 0)) := new_at3 rfl
  have HF : Hid ((((w1.alloc (.cells #[.int .i64 7, .slice (some ⟨w1.heap.size + 1 + 1, 0, none⟩) 6 6, .slice none 0 0, .slice none 0 0, .slice none 0 0, .slice none 0 0, .slice a1 m1 c1, .slice none 0 0, .string ⟨#[]⟩, .int .i64 0, .int .i64 0, .int .i64 0, .slice none 0 0, .string ⟨#[]⟩] 37)).alloc (.cells #[.int .i64 n1, .int .i64 n2, .int .i64 n3, .int .i64 n4, .int .i64 n5, .int .i64 n6, .slice a1 m1 c1] 69)).alloc (.cells #[.int .i64 n1, .int .i64 n2, .int .i64 n3, .int .i64 n4, .int .i64 n5, .int .i64 n6] 3)).heap[w1.heap.size]? = some (.cells #[.int .i64 7, .slice (some ⟨w1.heap.size + 1 + 1, 0, none⟩) 6 6, .slice none 0 0, .slice none 0 0, .slice none 0 0, .slice none 0 0, .slice a1 m1 c1, .slice none 0 0, .string ⟨#[]⟩, .int .i64 0, .int .i64 0, .int .i64 0, .slice none 0 0, .string ⟨#[]⟩] 37 (0, 0))) := Lib.hid (hf0)
  have HQ : Hid ((((w1.alloc (.cells #[.int .i64 7, .slice (some ⟨w1.heap.size + 1 + 1, 0, none⟩) 6 6, .slice none 0 0, .slice none 0 0, .slice none 0 0, .slice none 0 0, .slice a1 m1 c1, .slice none 0 0, .string ⟨#[]⟩, .int .i64 0, .int .i64 0, .int .i64 0, .slice none 0 0, .string ⟨#[]⟩] 37)).alloc (.cells #[.int .i64 n1, .int .i64 n2, .int .i64 n3, .int .i64 n4, .int .i64 n5, .int .i64 n6, .slice a1 m1 c1] 69)).alloc (.cells #[.int .i64 n1, .int .i64 n2, .int .i64 n3, .int .i64 n4, .int .i64 n5, .int .i64 n6] 3)).heap[w1.heap.size + 1 + 1]? = some (.cells (intsA [n1, n2, n3, n4, n5, n6]) 3 (0, 0))) := Lib.hid (new_at (by simp))
  have HZZ : Hid ((((w1.alloc (.cells #[.int .i64 7, .slice (some ⟨w1.heap.size + 1 + 1, 0, none⟩) 6 6, .slice none 0 0, .slice none 0 0, .slice none 0 0, .slice none 0 0, .slice a1 m1 c1, .slice none 0 0, .string ⟨#[]⟩, .int .i64 0, .int .i64 0, .int .i64 0, .slice none 0 0, .string ⟨#[]⟩] 37)).alloc (.cells #[.int .i64 n1, .int .i64 n2, .int .i64 n3, .int .i64 n4, .int .i64 n5, .int .i64 n6, .slice a1 m1 c1] 69)).alloc (.cells #[.int .i64 n1, .int .i64 n2, .int .i64 n3, .int .i64 n4, .int .i64 n5, .int .i64 n6] 3)).heap[w.heap.size]? = some (.cells #[.int .i64 0, .slice none 0 0, .slice none 0 0, .slice none 0 0, .slice none 0 0, .slice none 0 0, .slice none 0 0, .slice none 0 0, .string ⟨#[]⟩, .int .i64 0, .int .i64 0, .int .i64 0, .slice none 0 0, .string ⟨#[]⟩] 37 (0, 0))) := Lib.hid (HZ3)
  have HBB : Hid (Below w.heap.size w (((w1.alloc (.cells #[.int .i64 7, .slice (some ⟨w1.heap.size + 1 + 1, 0, none⟩) 6 6, .slice none 0 0, .slice none 0 0, .slice none 0 0, .slice none 0 0, .slice a1 m1 c1, .slice none 0 0, .string ⟨#[]⟩, .int .i64 0, .int .i64 0, .int .i64 0, .slice none 0 0, .string ⟨#[]⟩] 37)).alloc (.cells #[.int .i64 n1, .int .i64 n2, .int .i64 n3, .int .i64 n4, .int .i64 n5, .int .i64 n6, .slice a1 m1 c1] 69)).alloc (.cells #[.int .i64 n1, .int .i64 n2, .int .i64 n3, .int .i64 n4, .int .i64 n5, .int .i64 n6] 3))) := Lib.hid (HB3)
  have hsz1 := hwb.size
  clear HZ3 HB3 hz1 hb1 hwb HZ0 HB0 hf0
  go_upto_region 57 with (fail)
  generalize (((w1.alloc (.cells #[.int .i64 7, .slice (some ⟨w1.heap.size + 1 + 1, 0, none⟩) 6 6, .slice none 0 0, .slice none 0 0, .slice none 0 0, .slice none 0 0, .slice a1 m1 c1, .slice none 0 0, .string ⟨#[]⟩, .int .i64 0, .int .i64 0, .int .i64 0, .slice none 0 0, .string ⟨#[]⟩] 37)).alloc (.cells #[.int .i64 n1, .int .i64 n2, .int .i64 n3, .int .i64 n4, .int .i64 n5, .int .i64 n6, .slice a1 m1 c1] 69)).alloc (.cells #[.int .i64 n1, .int .i64 n2, .int .i64 n3, .int .i64 n4, .int .i64 n5, .int .i64 n6] 3)) = W9 at HF HQ HZZ HBB ⊢
  refine wp_region_lit ?_
  refine wpList_load_row rfl 37 (.tmp 4) rfl w1.heap.size rfl 37 #[.int .i64 7, .slice (some ⟨w1.heap.size + 1 + 1, 0, none⟩) 6 6, .slice none 0 0, .slice none 0 0, .slice none 0 0, .slice none 0 0, .slice a1 m1 c1, .slice none 0 0, .string ⟨#[]⟩, .int .i64 0, .int .i64 0, .int .i64 0, .slice none 0 0, .string ⟨#[]⟩] (0, 0) _ HF.out Tryz.underlying37 rfl (by kernel_rfl) ?_
  refine wpList_store_row rfl 37 (.tmp 2) (.tmp 208) rfl w.heap.size #[.int .i64 7, .slice (some ⟨w1.heap.size + 1 + 1, 0, none⟩) 6 6, .slice none 0 0, .slice none 0 0, .slice none 0 0, .slice none 0 0, .slice a1 m1 c1, .slice none 0 0, .string ⟨#[]⟩, .int .i64 0, .int .i64 0, .int .i64 0, .slice none 0 0, .string ⟨#[]⟩] rfl rfl 37 #[.int .i64 0, .slice none 0 0, .slice none 0 0, .slice none 0 0, .slice none 0 0, .slice none 0 0, .slice none 0 0, .slice none 0 0, .string ⟨#[]⟩, .int .i64 0, .int .i64 0, .int .i64 0, .slice none 0 0, .string ⟨#[]⟩] HZZ.out (by kernel_rfl) rfl (by simp [Value.oneCell']) ?_
  obtain ⟨w9, HW9, HK, HB9, HQ9⟩ := row14 (cs := #[.int .i64 7, .slice (some ⟨w1.heap.size + 1 + 1, 0, none⟩) 6 6, .slice none 0 0, .slice none 0 0, .slice none 0 0, .slice none 0 0, .slice a1 m1 c1, .slice none 0 0, .string ⟨#[]⟩, .int .i64 0, .int .i64 0, .int .i64 0, .slice none 0 0, .string ⟨#[]⟩]) HZZ.out HBB.out HQ.out (by omega)
  rw [← HW9.out]
  clear HW9 HF HZZ HBB HQ
  have hld := run_loadVar_row (P := Tryz.prog) w9 w.heap.size 37 37 #[.int .i64 7, .slice (some ⟨w1.heap.size + 1 + 1, 0, none⟩) 6 6, .slice none 0 0, .slice none 0 0, .slice none 0 0, .slice none 0 0, .slice a1 m1 c1, .slice none 0 0, .string ⟨#[]⟩, .int .i64 0, .int .i64 0, .int .i64 0, .slice none 0 0, .string ⟨#[]⟩] (0, 0) _ HK.out Tryz.underlying37 rfl (by kernel_rfl)
  have HLD := Lib.hid hld
  clear hld
  go_wp2
  (try simp only [Exit.inBlock, Exit.then])
  refine bodyPost_ret (v := .tuple #[.agg #[.int .i64 7, .slice (some ⟨w1.heap.size + 1 + 1, 0, none⟩) 6 6, .slice none 0 0, .slice none 0 0, .slice none 0 0, .slice none 0 0, .slice a1 m1 c1, .slice none 0 0, .string ⟨#[]⟩, .int .i64 0, .int .i64 0, .int .i64 0, .slice none 0 0, .string ⟨#[]⟩], .bool true]) ?_ rfl ⟨_, rfl, HQ9.out, HB9.out, by omega⟩
  rw [results_cell_tmp rfl]
  simp [asAddr, Result.andThen, HLD.out]

set_option maxHeartbeats 1000000 in
set_option maxRecDepth 100000 in
theorem kind_ack (n1 n2 n3 : Int) (w : World) : Calls Tryz.prog 119 #[.agg #[.int .i64 n1, .int .i64 n2, .int .i64 n3]] w fun x w' => x = .returned (.int .i64 8) ∧ Below w.heap.size w w' := by
  go_enter Tryz.func119, Tryz.ntmps119
  go_wp2
  go_ret
  exact ⟨rfl, by go_grown⟩

set_option maxHeartbeats 4000000 in
set_option maxRecDepth 100000 in
theorem flat_ack (n1 n2 n3 : Int) (w : World) :
    Calls Tryz.prog 7 #[.iface 51 (.agg #[.int .i64 n1, .int .i64 n2, .int .i64 n3])] w fun x w' => ∃ q, x = .returned (.tuple #[.agg #[.int .i64 8, .slice (some ⟨q, 0, none⟩) 3 3, .slice none 0 0, .slice none 0 0, .slice none 0 0, .slice none 0 0, .slice none 0 0, .slice none 0 0, .string ⟨#[]⟩, .int .i64 0, .int .i64 0, .int .i64 0, .slice none 0 0, .string ⟨#[]⟩], .bool true]) ∧ w'.heap[q]? = some (.cells (intsA [n1, n2, n3]) 3 (0, 0)) ∧ Below w.heap.size w w' ∧ w.heap.size ≤ q := by
  have hnn := not_nil
  have as0 := fun v W => Tryz.no_beat 51 v W (by decide)
  have as1 := fun v W => Tryz.no_join 51 v W (by decide)
  have as2 := fun v W => Tryz.no_lease 51 v W (by decide)
  have as3 := fun v W => Tryz.no_view 51 v W (by decide)
  have as4 := fun v W => Tryz.no_where 51 v W (by decide)
  have as5 := fun v W => Tryz.no_have 51 v W (by decide)
  have as6 := fun v W => Tryz.no_logs 51 v W (by decide)
  have as7 := fun v W => Tryz.yes_ack v W
  have HZ0 : Hid ((w.alloc (.cells #[.int .i64 0, .slice none 0 0, .slice none 0 0, .slice none 0 0, .slice none 0 0, .slice none 0 0, .slice none 0 0, .slice none 0 0, .string ⟨#[]⟩, .int .i64 0, .int .i64 0, .int .i64 0, .slice none 0 0, .string ⟨#[]⟩] 37)).heap[w.heap.size]? = some (.cells #[.int .i64 0, .slice none 0 0, .slice none 0 0, .slice none 0 0, .slice none 0 0, .slice none 0 0, .slice none 0 0, .slice none 0 0, .string ⟨#[]⟩, .int .i64 0, .int .i64 0, .int .i64 0, .slice none 0 0, .string ⟨#[]⟩] 37 (0, 0))) := Lib.hid (new_at rfl)
  have HB0 := Lib.hid ((Below.refl _ w).alloc (Nat.le_refl _) (.cells #[.int .i64 0, .slice none 0 0, .slice none 0 0, .slice none 0 0, .slice none 0 0, .slice none 0 0, .slice none 0 0, .slice none 0 0, .string ⟨#[]⟩, .int .i64 0, .int .i64 0, .int .i64 0, .slice none 0 0, .string ⟨#[]⟩] 37))
  go_enter Tryz.func7, Tryz.ntmps7
  go_wp2_with fail
  refine (kind_ack n1 n2 n3 _).mono ?_
  rintro x w1 ⟨rfl, hb1⟩
  have hz1 := block_below HZ0.out hb1
  have hwb := HB0.out.trans (hb1.mono HB0.out.size)
  have hlt1 := lt_of_block hz1
  have HZ3 : (((w1.alloc (.cells #[.int .i64 8, .slice (some ⟨w1.heap.size + 1 + 1, 0, none⟩) 3 3, .slice none 0 0, .slice none 0 0, .slice none 0 0, .slice none 0 0, .slice none 0 0, .slice none 0 0, .string ⟨#[]⟩, .int .i64 0, .int .i64 0, .int .i64 0, .slice none 0 0, .string ⟨#[]⟩] 37)).alloc (.cells #[.int .i64 n1, .int .i64 n2, .int .i64 n3] 51)).alloc (.cells #[.int .i64 n1, .int .i64 n2, .int .i64 n3] 3)).heap[w.heap.size]? = some (.cells #[.int .i64 0, .slice none 0 0, .slice none 0 0, .slice none 0 0, .slice none 0 0, .slice none 0 0, .slice none 0 0, .slice none 0 0, .string ⟨#[]⟩, .int .i64 0, .int .i64 0, .int .i64 0, .slice none 0 0, .string ⟨#[]⟩] 37 (0, 0)) := block_below hz1 (((((Below.refl _ w1).alloc (Nat.le_refl _) _).alloc (by simp) _).alloc (by simp; omega) _))
  have HB3 : Below w.heap.size w (((w1.alloc (.cells #[.int .i64 8, .slice (some ⟨w1.heap.size + 1 + 1, 0, none⟩) 3 3, .slice none 0 0, .slice none 0 0, .slice none 0 0, .slice none 0 0, .slice none 0 0, .slice none 0 0, .string ⟨#[]⟩, .int .i64 0, .int .i64 0, .int .i64 0, .slice none 0 0, .string ⟨#[]⟩] 37)).alloc (.cells #[.int .i64 n1, .int .i64 n2, .int .i64 n3] 51)).alloc (.cells #[.int .i64 n1, .int .i64 n2, .int .i64 n3] 3)) := ((hwb.alloc hwb.size _).alloc (by have := hwb.size; simp; omega) _).alloc (by have := hwb.size; simp; omega) _
  have hf0 : (((w1.alloc (.cells #[.int .i64 8, .slice (some ⟨w1.heap.size + 1 + 1, 0, none⟩) 3 3, .slice none 0 0, .slice none 0 0, .slice none 0 0, .slice none 0 0, .slice none 0 0, .slice none 0 0, .string ⟨#[]⟩, .int .i64 0, .int .i64 0, .int .i64 0, .slice none 0 0, .string ⟨#[]⟩] 37)).alloc (.cells #[.int .i64 n1, .int .i64 n2, .int .i64 n3] 51)).alloc (.cells #[.int .i64 n1, .int .i64 n2, .int .i64 n3] 3)).heap[w1.heap.size]? = some (.cells #[.int .i64 8, .slice (some ⟨w1.heap.size + 1 + 1, 0, none⟩) 3 3, .slice none 0 0, .slice none 0 0, .slice none 0 0, .slice none 0 0, .slice none 0 0, .slice none 0 0, .string ⟨#[]⟩, .int .i64 0, .int .i64 0, .int .i64 0, .slice none 0 0, .string ⟨#[]⟩] 37 (0, 0)) := new_at3 rfl
  have HF : Hid ((((w1.alloc (.cells #[.int .i64 8, .slice (some ⟨w1.heap.size + 1 + 1, 0, none⟩) 3 3, .slice none 0 0, .slice none 0 0, .slice none 0 0, .slice none 0 0, .slice none 0 0, .slice none 0 0, .string ⟨#[]⟩, .int .i64 0, .int .i64 0, .int .i64 0, .slice none 0 0, .string ⟨#[]⟩] 37)).alloc (.cells #[.int .i64 n1, .int .i64 n2, .int .i64 n3] 51)).alloc (.cells #[.int .i64 n1, .int .i64 n2, .int .i64 n3] 3)).heap[w1.heap.size]? = some (.cells #[.int .i64 8, .slice (some ⟨w1.heap.size + 1 + 1, 0, none⟩) 3 3, .slice none 0 0, .slice none 0 0, .slice none 0 0, .slice none 0 0, .slice none 0 0, .slice none 0 0, .string ⟨#[]⟩, .int .i64 0, .int .i64 0, .int .i64 0, .slice none 0 0, .string ⟨#[]⟩] 37 (0, 0))) := Lib.hid (hf0)
  have HQ : Hid ((((w1.alloc (.cells #[.int .i64 8, .slice (some ⟨w1.heap.size + 1 + 1, 0, none⟩) 3 3, .slice none 0 0, .slice none 0 0, .slice none 0 0, .slice none 0 0, .slice none 0 0, .slice none 0 0, .string ⟨#[]⟩, .int .i64 0, .int .i64 0, .int .i64 0, .slice none 0 0, .string ⟨#[]⟩] 37)).alloc (.cells #[.int .i64 n1, .int .i64 n2, .int .i64 n3] 51)).alloc (.cells #[.int .i64 n1, .int .i64 n2, .int .i64 n3] 3)).heap[w1.heap.size + 1 + 1]? = some (.cells (intsA [n1, n2, n3]) 3 (0, 0))) := Lib.hid (new_at (by simp))
  have HZZ : Hid ((((w1.alloc (.cells #[.int .i64 8, .slice (some ⟨w1.heap.size + 1 + 1, 0, none⟩) 3 3, .slice none 0 0, .slice none 0 0, .slice none 0 0, .slice none 0 0, .slice none 0 0, .slice none 0 0, .string ⟨#[]⟩, .int .i64 0, .int .i64 0, .int .i64 0, .slice none 0 0, .string ⟨#[]⟩] 37)).alloc (.cells #[.int .i64 n1, .int .i64 n2, .int .i64 n3] 51)).alloc (.cells #[.int .i64 n1, .int .i64 n2, .int .i64 n3] 3)).heap[w.heap.size]? = some (.cells #[.int .i64 0, .slice none 0 0, .slice none 0 0, .slice none 0 0, .slice none 0 0, .slice none 0 0, .slice none 0 0, .slice none 0 0, .string ⟨#[]⟩, .int .i64 0, .int .i64 0, .int .i64 0, .slice none 0 0, .string ⟨#[]⟩] 37 (0, 0))) := Lib.hid (HZ3)
  have HBB : Hid (Below w.heap.size w (((w1.alloc (.cells #[.int .i64 8, .slice (some ⟨w1.heap.size + 1 + 1, 0, none⟩) 3 3, .slice none 0 0, .slice none 0 0, .slice none 0 0, .slice none 0 0, .slice none 0 0, .slice none 0 0, .string ⟨#[]⟩, .int .i64 0, .int .i64 0, .int .i64 0, .slice none 0 0, .string ⟨#[]⟩] 37)).alloc (.cells #[.int .i64 n1, .int .i64 n2, .int .i64 n3] 51)).alloc (.cells #[.int .i64 n1, .int .i64 n2, .int .i64 n3] 3))) := Lib.hid (HB3)
  have hsz1 := hwb.size
  clear HZ3 HB3 hz1 hb1 hwb HZ0 HB0 hf0
  go_upto_region 57 with (fail)
  generalize (((w1.alloc (.cells #[.int .i64 8, .slice (some ⟨w1.heap.size + 1 + 1, 0, none⟩) 3 3, .slice none 0 0, .slice none 0 0, .slice none 0 0, .slice none 0 0, .slice none 0 0, .slice none 0 0, .string ⟨#[]⟩, .int .i64 0, .int .i64 0, .int .i64 0, .slice none 0 0, .string ⟨#[]⟩] 37)).alloc (.cells #[.int .i64 n1, .int .i64 n2, .int .i64 n3] 51)).alloc (.cells #[.int .i64 n1, .int .i64 n2, .int .i64 n3] 3)) = W9 at HF HQ HZZ HBB ⊢
  refine wp_region_lit ?_
  refine wpList_load_row rfl 37 (.tmp 4) rfl w1.heap.size rfl 37 #[.int .i64 8, .slice (some ⟨w1.heap.size + 1 + 1, 0, none⟩) 3 3, .slice none 0 0, .slice none 0 0, .slice none 0 0, .slice none 0 0, .slice none 0 0, .slice none 0 0, .string ⟨#[]⟩, .int .i64 0, .int .i64 0, .int .i64 0, .slice none 0 0, .string ⟨#[]⟩] (0, 0) _ HF.out Tryz.underlying37 rfl (by kernel_rfl) ?_
  refine wpList_store_row rfl 37 (.tmp 2) (.tmp 208) rfl w.heap.size #[.int .i64 8, .slice (some ⟨w1.heap.size + 1 + 1, 0, none⟩) 3 3, .slice none 0 0, .slice none 0 0, .slice none 0 0, .slice none 0 0, .slice none 0 0, .slice none 0 0, .string ⟨#[]⟩, .int .i64 0, .int .i64 0, .int .i64 0, .slice none 0 0, .string ⟨#[]⟩] rfl rfl 37 #[.int .i64 0, .slice none 0 0, .slice none 0 0, .slice none 0 0, .slice none 0 0, .slice none 0 0, .slice none 0 0, .slice none 0 0, .string ⟨#[]⟩, .int .i64 0, .int .i64 0, .int .i64 0, .slice none 0 0, .string ⟨#[]⟩] HZZ.out (by kernel_rfl) rfl (by simp [Value.oneCell']) ?_
  obtain ⟨w9, HW9, HK, HB9, HQ9⟩ := row14 (cs := #[.int .i64 8, .slice (some ⟨w1.heap.size + 1 + 1, 0, none⟩) 3 3, .slice none 0 0, .slice none 0 0, .slice none 0 0, .slice none 0 0, .slice none 0 0, .slice none 0 0, .string ⟨#[]⟩, .int .i64 0, .int .i64 0, .int .i64 0, .slice none 0 0, .string ⟨#[]⟩]) HZZ.out HBB.out HQ.out (by omega)
  rw [← HW9.out]
  clear HW9 HF HZZ HBB HQ
  have hld := run_loadVar_row (P := Tryz.prog) w9 w.heap.size 37 37 #[.int .i64 8, .slice (some ⟨w1.heap.size + 1 + 1, 0, none⟩) 3 3, .slice none 0 0, .slice none 0 0, .slice none 0 0, .slice none 0 0, .slice none 0 0, .slice none 0 0, .string ⟨#[]⟩, .int .i64 0, .int .i64 0, .int .i64 0, .slice none 0 0, .string ⟨#[]⟩] (0, 0) _ HK.out Tryz.underlying37 rfl (by kernel_rfl)
  have HLD := Lib.hid hld
  clear hld
  go_wp2
  (try simp only [Exit.inBlock, Exit.then])
  refine bodyPost_ret (v := .tuple #[.agg #[.int .i64 8, .slice (some ⟨w1.heap.size + 1 + 1, 0, none⟩) 3 3, .slice none 0 0, .slice none 0 0, .slice none 0 0, .slice none 0 0, .slice none 0 0, .slice none 0 0, .string ⟨#[]⟩, .int .i64 0, .int .i64 0, .int .i64 0, .slice none 0 0, .string ⟨#[]⟩], .bool true]) ?_ rfl ⟨_, rfl, HQ9.out, HB9.out, by omega⟩
  rw [results_cell_tmp rfl]
  simp [asAddr, Result.andThen, HLD.out]

set_option maxHeartbeats 1000000 in
set_option maxRecDepth 100000 in
theorem kind_ask (n1 n2 n3 n4 : Int) (w : World) : Calls Tryz.prog 127 #[.agg #[.int .i64 n1, .int .i64 n2, .int .i64 n3, .int .i64 n4]] w fun x w' => x = .returned (.int .i64 9) ∧ Below w.heap.size w w' := by
  go_enter Tryz.func127, Tryz.ntmps127
  go_wp2
  go_ret
  exact ⟨rfl, by go_grown⟩

set_option maxHeartbeats 4000000 in
set_option maxRecDepth 100000 in
theorem flat_ask (n1 n2 n3 n4 : Int) (w : World) :
    Calls Tryz.prog 7 #[.iface 71 (.agg #[.int .i64 n1, .int .i64 n2, .int .i64 n3, .int .i64 n4])] w fun x w' => ∃ q, x = .returned (.tuple #[.agg #[.int .i64 9, .slice (some ⟨q, 0, none⟩) 4 4, .slice none 0 0, .slice none 0 0, .slice none 0 0, .slice none 0 0, .slice none 0 0, .slice none 0 0, .string ⟨#[]⟩, .int .i64 0, .int .i64 0, .int .i64 0, .slice none 0 0, .string ⟨#[]⟩], .bool true]) ∧ w'.heap[q]? = some (.cells (intsA [n1, n2, n3, n4]) 3 (0, 0)) ∧ Below w.heap.size w w' ∧ w.heap.size ≤ q := by
  have hnn := not_nil
  have as0 := fun v W => Tryz.no_beat 71 v W (by decide)
  have as1 := fun v W => Tryz.no_join 71 v W (by decide)
  have as2 := fun v W => Tryz.no_lease 71 v W (by decide)
  have as3 := fun v W => Tryz.no_view 71 v W (by decide)
  have as4 := fun v W => Tryz.no_where 71 v W (by decide)
  have as5 := fun v W => Tryz.no_have 71 v W (by decide)
  have as6 := fun v W => Tryz.no_logs 71 v W (by decide)
  have as7 := fun v W => Tryz.no_ack 71 v W (by decide)
  have as8 := fun v W => Tryz.yes_ask v W
  have HZ0 : Hid ((w.alloc (.cells #[.int .i64 0, .slice none 0 0, .slice none 0 0, .slice none 0 0, .slice none 0 0, .slice none 0 0, .slice none 0 0, .slice none 0 0, .string ⟨#[]⟩, .int .i64 0, .int .i64 0, .int .i64 0, .slice none 0 0, .string ⟨#[]⟩] 37)).heap[w.heap.size]? = some (.cells #[.int .i64 0, .slice none 0 0, .slice none 0 0, .slice none 0 0, .slice none 0 0, .slice none 0 0, .slice none 0 0, .slice none 0 0, .string ⟨#[]⟩, .int .i64 0, .int .i64 0, .int .i64 0, .slice none 0 0, .string ⟨#[]⟩] 37 (0, 0))) := Lib.hid (new_at rfl)
  have HB0 := Lib.hid ((Below.refl _ w).alloc (Nat.le_refl _) (.cells #[.int .i64 0, .slice none 0 0, .slice none 0 0, .slice none 0 0, .slice none 0 0, .slice none 0 0, .slice none 0 0, .slice none 0 0, .string ⟨#[]⟩, .int .i64 0, .int .i64 0, .int .i64 0, .slice none 0 0, .string ⟨#[]⟩] 37))
  go_enter Tryz.func7, Tryz.ntmps7
  go_wp2_with fail
  refine (kind_ask n1 n2 n3 n4 _).mono ?_
  rintro x w1 ⟨rfl, hb1⟩
  have hz1 := block_below HZ0.out hb1
  have hwb := HB0.out.trans (hb1.mono HB0.out.size)
  have hlt1 := lt_of_block hz1
  have HZ3 : (((w1.alloc (.cells #[.int .i64 9, .slice (some ⟨w1.heap.size + 1 + 1, 0, none⟩) 4 4, .slice none 0 0, .slice none 0 0, .slice none 0 0, .slice none 0 0, .slice none 0 0, .slice none 0 0, .string ⟨#[]⟩, .int .i64 0, .int .i64 0, .int .i64 0, .slice none 0 0, .string ⟨#[]⟩] 37)).alloc (.cells #[.int .i64 n1, .int .i64 n2, .int .i64 n3, .int .i64 n4] 71)).alloc (.cells #[.int .i64 n1, .int .i64 n2, .int .i64 n3, .int .i64 n4] 3)).heap[w.heap.size]? = some (.cells #[.int .i64 0, .slice none 0 0, .slice none 0 0, .slice none 0 0, .slice none 0 0, .slice none 0 0, .slice none 0 0, .slice none 0 0, .string ⟨#[]⟩, .int .i64 0, .int .i64 0, .int .i64 0, .slice none 0 0, .string ⟨#[]⟩] 37 (0, 0)) := block_below hz1 (((((Below.refl _ w1).alloc (Nat.le_refl _) _).alloc (by simp) _).alloc (by simp; omega) _))
  have HB3 : Below w.heap.size w (((w1.alloc (.cells #[.int .i64 9, .slice (some ⟨w1.heap.size + 1 + 1, 0, none⟩) 4 4, .slice none 0 0, .slice none 0 0, .slice none 0 0, .slice none 0 0, .slice none 0 0, .slice none 0 0, .string ⟨#[]⟩, .int .i64 0, .int .i64 0, .int .i64 0, .slice none 0 0, .string ⟨#[]⟩] 37)).alloc (.cells #[.int .i64 n1, .int .i64 n2, .int .i64 n3, .int .i64 n4] 71)).alloc (.cells #[.int .i64 n1, .int .i64 n2, .int .i64 n3, .int .i64 n4] 3)) := ((hwb.alloc hwb.size _).alloc (by have := hwb.size; simp; omega) _).alloc (by have := hwb.size; simp; omega) _
  have hf0 : (((w1.alloc (.cells #[.int .i64 9, .slice (some ⟨w1.heap.size + 1 + 1, 0, none⟩) 4 4, .slice none 0 0, .slice none 0 0, .slice none 0 0, .slice none 0 0, .slice none 0 0, .slice none 0 0, .string ⟨#[]⟩, .int .i64 0, .int .i64 0, .int .i64 0, .slice none 0 0, .string ⟨#[]⟩] 37)).alloc (.cells #[.int .i64 n1, .int .i64 n2, .int .i64 n3, .int .i64 n4] 71)).alloc (.cells #[.int .i64 n1, .int .i64 n2, .int .i64 n3, .int .i64 n4] 3)).heap[w1.heap.size]? = some (.cells #[.int .i64 9, .slice (some ⟨w1.heap.size + 1 + 1, 0, none⟩) 4 4, .slice none 0 0, .slice none 0 0, .slice none 0 0, .slice none 0 0, .slice none 0 0, .slice none 0 0, .string ⟨#[]⟩, .int .i64 0, .int .i64 0, .int .i64 0, .slice none 0 0, .string ⟨#[]⟩] 37 (0, 0)) := new_at3 rfl
  have HF : Hid ((((w1.alloc (.cells #[.int .i64 9, .slice (some ⟨w1.heap.size + 1 + 1, 0, none⟩) 4 4, .slice none 0 0, .slice none 0 0, .slice none 0 0, .slice none 0 0, .slice none 0 0, .slice none 0 0, .string ⟨#[]⟩, .int .i64 0, .int .i64 0, .int .i64 0, .slice none 0 0, .string ⟨#[]⟩] 37)).alloc (.cells #[.int .i64 n1, .int .i64 n2, .int .i64 n3, .int .i64 n4] 71)).alloc (.cells #[.int .i64 n1, .int .i64 n2, .int .i64 n3, .int .i64 n4] 3)).heap[w1.heap.size]? = some (.cells #[.int .i64 9, .slice (some ⟨w1.heap.size + 1 + 1, 0, none⟩) 4 4, .slice none 0 0, .slice none 0 0, .slice none 0 0, .slice none 0 0, .slice none 0 0, .slice none 0 0, .string ⟨#[]⟩, .int .i64 0, .int .i64 0, .int .i64 0, .slice none 0 0, .string ⟨#[]⟩] 37 (0, 0))) := Lib.hid (hf0)
  have HQ : Hid ((((w1.alloc (.cells #[.int .i64 9, .slice (some ⟨w1.heap.size + 1 + 1, 0, none⟩) 4 4, .slice none 0 0, .slice none 0 0, .slice none 0 0, .slice none 0 0, .slice none 0 0, .slice none 0 0, .string ⟨#[]⟩, .int .i64 0, .int .i64 0, .int .i64 0, .slice none 0 0, .string ⟨#[]⟩] 37)).alloc (.cells #[.int .i64 n1, .int .i64 n2, .int .i64 n3, .int .i64 n4] 71)).alloc (.cells #[.int .i64 n1, .int .i64 n2, .int .i64 n3, .int .i64 n4] 3)).heap[w1.heap.size + 1 + 1]? = some (.cells (intsA [n1, n2, n3, n4]) 3 (0, 0))) := Lib.hid (new_at (by simp))
  have HZZ : Hid ((((w1.alloc (.cells #[.int .i64 9, .slice (some ⟨w1.heap.size + 1 + 1, 0, none⟩) 4 4, .slice none 0 0, .slice none 0 0, .slice none 0 0, .slice none 0 0, .slice none 0 0, .slice none 0 0, .string ⟨#[]⟩, .int .i64 0, .int .i64 0, .int .i64 0, .slice none 0 0, .string ⟨#[]⟩] 37)).alloc (.cells #[.int .i64 n1, .int .i64 n2, .int .i64 n3, .int .i64 n4] 71)).alloc (.cells #[.int .i64 n1, .int .i64 n2, .int .i64 n3, .int .i64 n4] 3)).heap[w.heap.size]? = some (.cells #[.int .i64 0, .slice none 0 0, .slice none 0 0, .slice none 0 0, .slice none 0 0, .slice none 0 0, .slice none 0 0, .slice none 0 0, .string ⟨#[]⟩, .int .i64 0, .int .i64 0, .int .i64 0, .slice none 0 0, .string ⟨#[]⟩] 37 (0, 0))) := Lib.hid (HZ3)
  have HBB : Hid (Below w.heap.size w (((w1.alloc (.cells #[.int .i64 9, .slice (some ⟨w1.heap.size + 1 + 1, 0, none⟩) 4 4, .slice none 0 0, .slice none 0 0, .slice none 0 0, .slice none 0 0, .slice none 0 0, .slice none 0 0, .string ⟨#[]⟩, .int .i64 0, .int .i64 0, .int .i64 0, .slice none 0 0, .string ⟨#[]⟩] 37)).alloc (.cells #[.int .i64 n1, .int .i64 n2, .int .i64 n3, .int .i64 n4] 71)).alloc (.cells #[.int .i64 n1, .int .i64 n2, .int .i64 n3, .int .i64 n4] 3))) := Lib.hid (HB3)
  have hsz1 := hwb.size
  clear HZ3 HB3 hz1 hb1 hwb HZ0 HB0 hf0
  go_upto_region 57 with (fail)
  generalize (((w1.alloc (.cells #[.int .i64 9, .slice (some ⟨w1.heap.size + 1 + 1, 0, none⟩) 4 4, .slice none 0 0, .slice none 0 0, .slice none 0 0, .slice none 0 0, .slice none 0 0, .slice none 0 0, .string ⟨#[]⟩, .int .i64 0, .int .i64 0, .int .i64 0, .slice none 0 0, .string ⟨#[]⟩] 37)).alloc (.cells #[.int .i64 n1, .int .i64 n2, .int .i64 n3, .int .i64 n4] 71)).alloc (.cells #[.int .i64 n1, .int .i64 n2, .int .i64 n3, .int .i64 n4] 3)) = W9 at HF HQ HZZ HBB ⊢
  refine wp_region_lit ?_
  refine wpList_load_row rfl 37 (.tmp 4) rfl w1.heap.size rfl 37 #[.int .i64 9, .slice (some ⟨w1.heap.size + 1 + 1, 0, none⟩) 4 4, .slice none 0 0, .slice none 0 0, .slice none 0 0, .slice none 0 0, .slice none 0 0, .slice none 0 0, .string ⟨#[]⟩, .int .i64 0, .int .i64 0, .int .i64 0, .slice none 0 0, .string ⟨#[]⟩] (0, 0) _ HF.out Tryz.underlying37 rfl (by kernel_rfl) ?_
  refine wpList_store_row rfl 37 (.tmp 2) (.tmp 208) rfl w.heap.size #[.int .i64 9, .slice (some ⟨w1.heap.size + 1 + 1, 0, none⟩) 4 4, .slice none 0 0, .slice none 0 0, .slice none 0 0, .slice none 0 0, .slice none 0 0, .slice none 0 0, .string ⟨#[]⟩, .int .i64 0, .int .i64 0, .int .i64 0, .slice none 0 0, .string ⟨#[]⟩] rfl rfl 37 #[.int .i64 0, .slice none 0 0, .slice none 0 0, .slice none 0 0, .slice none 0 0, .slice none 0 0, .slice none 0 0, .slice none 0 0, .string ⟨#[]⟩, .int .i64 0, .int .i64 0, .int .i64 0, .slice none 0 0, .string ⟨#[]⟩] HZZ.out (by kernel_rfl) rfl (by simp [Value.oneCell']) ?_
  obtain ⟨w9, HW9, HK, HB9, HQ9⟩ := row14 (cs := #[.int .i64 9, .slice (some ⟨w1.heap.size + 1 + 1, 0, none⟩) 4 4, .slice none 0 0, .slice none 0 0, .slice none 0 0, .slice none 0 0, .slice none 0 0, .slice none 0 0, .string ⟨#[]⟩, .int .i64 0, .int .i64 0, .int .i64 0, .slice none 0 0, .string ⟨#[]⟩]) HZZ.out HBB.out HQ.out (by omega)
  rw [← HW9.out]
  clear HW9 HF HZZ HBB HQ
  have hld := run_loadVar_row (P := Tryz.prog) w9 w.heap.size 37 37 #[.int .i64 9, .slice (some ⟨w1.heap.size + 1 + 1, 0, none⟩) 4 4, .slice none 0 0, .slice none 0 0, .slice none 0 0, .slice none 0 0, .slice none 0 0, .slice none 0 0, .string ⟨#[]⟩, .int .i64 0, .int .i64 0, .int .i64 0, .slice none 0 0, .string ⟨#[]⟩] (0, 0) _ HK.out Tryz.underlying37 rfl (by kernel_rfl)
  have HLD := Lib.hid hld
  clear hld
  go_wp2
  (try simp only [Exit.inBlock, Exit.then])
  refine bodyPost_ret (v := .tuple #[.agg #[.int .i64 9, .slice (some ⟨w1.heap.size + 1 + 1, 0, none⟩) 4 4, .slice none 0 0, .slice none 0 0, .slice none 0 0, .slice none 0 0, .slice none 0 0, .slice none 0 0, .string ⟨#[]⟩, .int .i64 0, .int .i64 0, .int .i64 0, .slice none 0 0, .string ⟨#[]⟩], .bool true]) ?_ rfl ⟨_, rfl, HQ9.out, HB9.out, by omega⟩
  rw [results_cell_tmp rfl]
  simp [asAddr, Result.andThen, HLD.out]

set_option maxHeartbeats 1000000 in
set_option maxRecDepth 100000 in
theorem kind_told (n1 n2 n3 n4 : Int) (w : World) : Calls Tryz.prog 128 #[.agg #[.int .i64 n1, .int .i64 n2, .int .i64 n3, .int .i64 n4]] w fun x w' => x = .returned (.int .i64 10) ∧ Below w.heap.size w w' := by
  go_enter Tryz.func128, Tryz.ntmps128
  go_wp2
  go_ret
  exact ⟨rfl, by go_grown⟩

set_option maxHeartbeats 4000000 in
set_option maxRecDepth 100000 in
theorem flat_told (n1 n2 n3 n4 : Int) (w : World) :
    Calls Tryz.prog 7 #[.iface 73 (.agg #[.int .i64 n1, .int .i64 n2, .int .i64 n3, .int .i64 n4])] w fun x w' => ∃ q, x = .returned (.tuple #[.agg #[.int .i64 10, .slice (some ⟨q, 0, none⟩) 4 4, .slice none 0 0, .slice none 0 0, .slice none 0 0, .slice none 0 0, .slice none 0 0, .slice none 0 0, .string ⟨#[]⟩, .int .i64 0, .int .i64 0, .int .i64 0, .slice none 0 0, .string ⟨#[]⟩], .bool true]) ∧ w'.heap[q]? = some (.cells (intsA [n1, n2, n3, n4]) 3 (0, 0)) ∧ Below w.heap.size w w' ∧ w.heap.size ≤ q := by
  have hnn := not_nil
  have as0 := fun v W => Tryz.no_beat 73 v W (by decide)
  have as1 := fun v W => Tryz.no_join 73 v W (by decide)
  have as2 := fun v W => Tryz.no_lease 73 v W (by decide)
  have as3 := fun v W => Tryz.no_view 73 v W (by decide)
  have as4 := fun v W => Tryz.no_where 73 v W (by decide)
  have as5 := fun v W => Tryz.no_have 73 v W (by decide)
  have as6 := fun v W => Tryz.no_logs 73 v W (by decide)
  have as7 := fun v W => Tryz.no_ack 73 v W (by decide)
  have as8 := fun v W => Tryz.no_ask 73 v W (by decide)
  have as9 := fun v W => Tryz.yes_told v W
  have HZ0 : Hid ((w.alloc (.cells #[.int .i64 0, .slice none 0 0, .slice none 0 0, .slice none 0 0, .slice none 0 0, .slice none 0 0, .slice none 0 0, .slice none 0 0, .string ⟨#[]⟩, .int .i64 0, .int .i64 0, .int .i64 0, .slice none 0 0, .string ⟨#[]⟩] 37)).heap[w.heap.size]? = some (.cells #[.int .i64 0, .slice none 0 0, .slice none 0 0, .slice none 0 0, .slice none 0 0, .slice none 0 0, .slice none 0 0, .slice none 0 0, .string ⟨#[]⟩, .int .i64 0, .int .i64 0, .int .i64 0, .slice none 0 0, .string ⟨#[]⟩] 37 (0, 0))) := Lib.hid (new_at rfl)
  have HB0 := Lib.hid ((Below.refl _ w).alloc (Nat.le_refl _) (.cells #[.int .i64 0, .slice none 0 0, .slice none 0 0, .slice none 0 0, .slice none 0 0, .slice none 0 0, .slice none 0 0, .slice none 0 0, .string ⟨#[]⟩, .int .i64 0, .int .i64 0, .int .i64 0, .slice none 0 0, .string ⟨#[]⟩] 37))
  go_enter Tryz.func7, Tryz.ntmps7
  go_wp2_with fail
  refine (kind_told n1 n2 n3 n4 _).mono ?_
  rintro x w1 ⟨rfl, hb1⟩
  have hz1 := block_below HZ0.out hb1
  have hwb := HB0.out.trans (hb1.mono HB0.out.size)
  have hlt1 := lt_of_block hz1
  have HZ3 : (((w1.alloc (.cells #[.int .i64 10, .slice (some ⟨w1.heap.size + 1 + 1, 0, none⟩) 4 4, .slice none 0 0, .slice none 0 0, .slice none 0 0, .slice none 0 0, .slice none 0 0, .slice none 0 0, .string ⟨#[]⟩, .int .i64 0, .int .i64 0, .int .i64 0, .slice none 0 0, .string ⟨#[]⟩] 37)).alloc (.cells #[.int .i64 n1, .int .i64 n2, .int .i64 n3, .int .i64 n4] 73)).alloc (.cells #[.int .i64 n1, .int .i64 n2, .int .i64 n3, .int .i64 n4] 3)).heap[w.heap.size]? = some (.cells #[.int .i64 0, .slice none 0 0, .slice none 0 0, .slice none 0 0, .slice none 0 0, .slice none 0 0, .slice none 0 0, .slice none 0 0, .string ⟨#[]⟩, .int .i64 0, .int .i64 0, .int .i64 0, .slice none 0 0, .string ⟨#[]⟩] 37 (0, 0)) := block_below hz1 (((((Below.refl _ w1).alloc (Nat.le_refl _) _).alloc (by simp) _).alloc (by simp; omega) _))
  have HB3 : Below w.heap.size w (((w1.alloc (.cells #[.int .i64 10, .slice (some ⟨w1.heap.size + 1 + 1, 0, none⟩) 4 4, .slice none 0 0, .slice none 0 0, .slice none 0 0, .slice none 0 0, .slice none 0 0, .slice none 0 0, .string ⟨#[]⟩, .int .i64 0, .int .i64 0, .int .i64 0, .slice none 0 0, .string ⟨#[]⟩] 37)).alloc (.cells #[.int .i64 n1, .int .i64 n2, .int .i64 n3, .int .i64 n4] 73)).alloc (.cells #[.int .i64 n1, .int .i64 n2, .int .i64 n3, .int .i64 n4] 3)) := ((hwb.alloc hwb.size _).alloc (by have := hwb.size; simp; omega) _).alloc (by have := hwb.size; simp; omega) _
  have hf0 : (((w1.alloc (.cells #[.int .i64 10, .slice (some ⟨w1.heap.size + 1 + 1, 0, none⟩) 4 4, .slice none 0 0, .slice none 0 0, .slice none 0 0, .slice none 0 0, .slice none 0 0, .slice none 0 0, .string ⟨#[]⟩, .int .i64 0, .int .i64 0, .int .i64 0, .slice none 0 0, .string ⟨#[]⟩] 37)).alloc (.cells #[.int .i64 n1, .int .i64 n2, .int .i64 n3, .int .i64 n4] 73)).alloc (.cells #[.int .i64 n1, .int .i64 n2, .int .i64 n3, .int .i64 n4] 3)).heap[w1.heap.size]? = some (.cells #[.int .i64 10, .slice (some ⟨w1.heap.size + 1 + 1, 0, none⟩) 4 4, .slice none 0 0, .slice none 0 0, .slice none 0 0, .slice none 0 0, .slice none 0 0, .slice none 0 0, .string ⟨#[]⟩, .int .i64 0, .int .i64 0, .int .i64 0, .slice none 0 0, .string ⟨#[]⟩] 37 (0, 0)) := new_at3 rfl
  have HF : Hid ((((w1.alloc (.cells #[.int .i64 10, .slice (some ⟨w1.heap.size + 1 + 1, 0, none⟩) 4 4, .slice none 0 0, .slice none 0 0, .slice none 0 0, .slice none 0 0, .slice none 0 0, .slice none 0 0, .string ⟨#[]⟩, .int .i64 0, .int .i64 0, .int .i64 0, .slice none 0 0, .string ⟨#[]⟩] 37)).alloc (.cells #[.int .i64 n1, .int .i64 n2, .int .i64 n3, .int .i64 n4] 73)).alloc (.cells #[.int .i64 n1, .int .i64 n2, .int .i64 n3, .int .i64 n4] 3)).heap[w1.heap.size]? = some (.cells #[.int .i64 10, .slice (some ⟨w1.heap.size + 1 + 1, 0, none⟩) 4 4, .slice none 0 0, .slice none 0 0, .slice none 0 0, .slice none 0 0, .slice none 0 0, .slice none 0 0, .string ⟨#[]⟩, .int .i64 0, .int .i64 0, .int .i64 0, .slice none 0 0, .string ⟨#[]⟩] 37 (0, 0))) := Lib.hid (hf0)
  have HQ : Hid ((((w1.alloc (.cells #[.int .i64 10, .slice (some ⟨w1.heap.size + 1 + 1, 0, none⟩) 4 4, .slice none 0 0, .slice none 0 0, .slice none 0 0, .slice none 0 0, .slice none 0 0, .slice none 0 0, .string ⟨#[]⟩, .int .i64 0, .int .i64 0, .int .i64 0, .slice none 0 0, .string ⟨#[]⟩] 37)).alloc (.cells #[.int .i64 n1, .int .i64 n2, .int .i64 n3, .int .i64 n4] 73)).alloc (.cells #[.int .i64 n1, .int .i64 n2, .int .i64 n3, .int .i64 n4] 3)).heap[w1.heap.size + 1 + 1]? = some (.cells (intsA [n1, n2, n3, n4]) 3 (0, 0))) := Lib.hid (new_at (by simp))
  have HZZ : Hid ((((w1.alloc (.cells #[.int .i64 10, .slice (some ⟨w1.heap.size + 1 + 1, 0, none⟩) 4 4, .slice none 0 0, .slice none 0 0, .slice none 0 0, .slice none 0 0, .slice none 0 0, .slice none 0 0, .string ⟨#[]⟩, .int .i64 0, .int .i64 0, .int .i64 0, .slice none 0 0, .string ⟨#[]⟩] 37)).alloc (.cells #[.int .i64 n1, .int .i64 n2, .int .i64 n3, .int .i64 n4] 73)).alloc (.cells #[.int .i64 n1, .int .i64 n2, .int .i64 n3, .int .i64 n4] 3)).heap[w.heap.size]? = some (.cells #[.int .i64 0, .slice none 0 0, .slice none 0 0, .slice none 0 0, .slice none 0 0, .slice none 0 0, .slice none 0 0, .slice none 0 0, .string ⟨#[]⟩, .int .i64 0, .int .i64 0, .int .i64 0, .slice none 0 0, .string ⟨#[]⟩] 37 (0, 0))) := Lib.hid (HZ3)
  have HBB : Hid (Below w.heap.size w (((w1.alloc (.cells #[.int .i64 10, .slice (some ⟨w1.heap.size + 1 + 1, 0, none⟩) 4 4, .slice none 0 0, .slice none 0 0, .slice none 0 0, .slice none 0 0, .slice none 0 0, .slice none 0 0, .string ⟨#[]⟩, .int .i64 0, .int .i64 0, .int .i64 0, .slice none 0 0, .string ⟨#[]⟩] 37)).alloc (.cells #[.int .i64 n1, .int .i64 n2, .int .i64 n3, .int .i64 n4] 73)).alloc (.cells #[.int .i64 n1, .int .i64 n2, .int .i64 n3, .int .i64 n4] 3))) := Lib.hid (HB3)
  have hsz1 := hwb.size
  clear HZ3 HB3 hz1 hb1 hwb HZ0 HB0 hf0
  go_upto_region 57 with (fail)
  generalize (((w1.alloc (.cells #[.int .i64 10, .slice (some ⟨w1.heap.size + 1 + 1, 0, none⟩) 4 4, .slice none 0 0, .slice none 0 0, .slice none 0 0, .slice none 0 0, .slice none 0 0, .slice none 0 0, .string ⟨#[]⟩, .int .i64 0, .int .i64 0, .int .i64 0, .slice none 0 0, .string ⟨#[]⟩] 37)).alloc (.cells #[.int .i64 n1, .int .i64 n2, .int .i64 n3, .int .i64 n4] 73)).alloc (.cells #[.int .i64 n1, .int .i64 n2, .int .i64 n3, .int .i64 n4] 3)) = W9 at HF HQ HZZ HBB ⊢
  refine wp_region_lit ?_
  refine wpList_load_row rfl 37 (.tmp 4) rfl w1.heap.size rfl 37 #[.int .i64 10, .slice (some ⟨w1.heap.size + 1 + 1, 0, none⟩) 4 4, .slice none 0 0, .slice none 0 0, .slice none 0 0, .slice none 0 0, .slice none 0 0, .slice none 0 0, .string ⟨#[]⟩, .int .i64 0, .int .i64 0, .int .i64 0, .slice none 0 0, .string ⟨#[]⟩] (0, 0) _ HF.out Tryz.underlying37 rfl (by kernel_rfl) ?_
  refine wpList_store_row rfl 37 (.tmp 2) (.tmp 208) rfl w.heap.size #[.int .i64 10, .slice (some ⟨w1.heap.size + 1 + 1, 0, none⟩) 4 4, .slice none 0 0, .slice none 0 0, .slice none 0 0, .slice none 0 0, .slice none 0 0, .slice none 0 0, .string ⟨#[]⟩, .int .i64 0, .int .i64 0, .int .i64 0, .slice none 0 0, .string ⟨#[]⟩] rfl rfl 37 #[.int .i64 0, .slice none 0 0, .slice none 0 0, .slice none 0 0, .slice none 0 0, .slice none 0 0, .slice none 0 0, .slice none 0 0, .string ⟨#[]⟩, .int .i64 0, .int .i64 0, .int .i64 0, .slice none 0 0, .string ⟨#[]⟩] HZZ.out (by kernel_rfl) rfl (by simp [Value.oneCell']) ?_
  obtain ⟨w9, HW9, HK, HB9, HQ9⟩ := row14 (cs := #[.int .i64 10, .slice (some ⟨w1.heap.size + 1 + 1, 0, none⟩) 4 4, .slice none 0 0, .slice none 0 0, .slice none 0 0, .slice none 0 0, .slice none 0 0, .slice none 0 0, .string ⟨#[]⟩, .int .i64 0, .int .i64 0, .int .i64 0, .slice none 0 0, .string ⟨#[]⟩]) HZZ.out HBB.out HQ.out (by omega)
  rw [← HW9.out]
  clear HW9 HF HZZ HBB HQ
  have hld := run_loadVar_row (P := Tryz.prog) w9 w.heap.size 37 37 #[.int .i64 10, .slice (some ⟨w1.heap.size + 1 + 1, 0, none⟩) 4 4, .slice none 0 0, .slice none 0 0, .slice none 0 0, .slice none 0 0, .slice none 0 0, .slice none 0 0, .string ⟨#[]⟩, .int .i64 0, .int .i64 0, .int .i64 0, .slice none 0 0, .string ⟨#[]⟩] (0, 0) _ HK.out Tryz.underlying37 rfl (by kernel_rfl)
  have HLD := Lib.hid hld
  clear hld
  go_wp2
  (try simp only [Exit.inBlock, Exit.then])
  refine bodyPost_ret (v := .tuple #[.agg #[.int .i64 10, .slice (some ⟨w1.heap.size + 1 + 1, 0, none⟩) 4 4, .slice none 0 0, .slice none 0 0, .slice none 0 0, .slice none 0 0, .slice none 0 0, .slice none 0 0, .string ⟨#[]⟩, .int .i64 0, .int .i64 0, .int .i64 0, .slice none 0 0, .string ⟨#[]⟩], .bool true]) ?_ rfl ⟨_, rfl, HQ9.out, HB9.out, by omega⟩
  rw [results_cell_tmp rfl]
  simp [asAddr, Result.andThen, HLD.out]

set_option maxHeartbeats 1000000 in
set_option maxRecDepth 100000 in
theorem kind_append (n1 : Int) (bt : E.Bat) (v1 : Value) (w : World) (hf1 : ∃ a n c, v1 = .slice a n c) : Calls Tryz.prog 129 #[.agg #[.int .i64 n1, .string (B bt.stream), .int .i64 bt.expect, .int .i64 bt.session, .int .i64 bt.seq, v1]] w fun x w' => x = .returned (.int .i64 11) ∧ Below w.heap.size w w' := by
  obtain ⟨a1, m1, c1, rfl⟩ := hf1
  go_enter Tryz.func129, Tryz.ntmps129
  go_wp2
  go_ret
  exact ⟨rfl, by go_grown⟩

set_option maxHeartbeats 4000000 in
set_option maxRecDepth 100000 in
theorem flat_append (n1 : Int) (bt : E.Bat) (v1 : Value) (w : World) (hf1 : ∃ a n c, v1 = .slice a n c) :
    Calls Tryz.prog 7 #[.iface 75 (.agg #[.int .i64 n1, .string (B bt.stream), .int .i64 bt.expect, .int .i64 bt.session, .int .i64 bt.seq, v1])] w fun x w' => ∃ q, x = .returned (.tuple #[.agg #[.int .i64 11, .slice (some ⟨q, 0, none⟩) 1 1, .slice none 0 0, .slice none 0 0, .slice none 0 0, .slice none 0 0, .slice none 0 0, .slice none 0 0, .string (B bt.stream), .int .i64 bt.expect, .int .i64 bt.session, .int .i64 bt.seq, v1, .string ⟨#[]⟩], .bool true]) ∧ w'.heap[q]? = some (.cells (intsA [n1]) 3 (0, 0)) ∧ Below w.heap.size w w' ∧ w.heap.size ≤ q := by
  have hnn := not_nil
  have as0 := fun v W => Tryz.no_beat 75 v W (by decide)
  have as1 := fun v W => Tryz.no_join 75 v W (by decide)
  have as2 := fun v W => Tryz.no_lease 75 v W (by decide)
  have as3 := fun v W => Tryz.no_view 75 v W (by decide)
  have as4 := fun v W => Tryz.no_where 75 v W (by decide)
  have as5 := fun v W => Tryz.no_have 75 v W (by decide)
  have as6 := fun v W => Tryz.no_logs 75 v W (by decide)
  have as7 := fun v W => Tryz.no_ack 75 v W (by decide)
  have as8 := fun v W => Tryz.no_ask 75 v W (by decide)
  have as9 := fun v W => Tryz.no_told 75 v W (by decide)
  have as10 := fun v W => Tryz.yes_append v W
  obtain ⟨a1, m1, c1, rfl⟩ := hf1
  have HZ0 : Hid ((w.alloc (.cells #[.int .i64 0, .slice none 0 0, .slice none 0 0, .slice none 0 0, .slice none 0 0, .slice none 0 0, .slice none 0 0, .slice none 0 0, .string ⟨#[]⟩, .int .i64 0, .int .i64 0, .int .i64 0, .slice none 0 0, .string ⟨#[]⟩] 37)).heap[w.heap.size]? = some (.cells #[.int .i64 0, .slice none 0 0, .slice none 0 0, .slice none 0 0, .slice none 0 0, .slice none 0 0, .slice none 0 0, .slice none 0 0, .string ⟨#[]⟩, .int .i64 0, .int .i64 0, .int .i64 0, .slice none 0 0, .string ⟨#[]⟩] 37 (0, 0))) := Lib.hid (new_at rfl)
  have HB0 := Lib.hid ((Below.refl _ w).alloc (Nat.le_refl _) (.cells #[.int .i64 0, .slice none 0 0, .slice none 0 0, .slice none 0 0, .slice none 0 0, .slice none 0 0, .slice none 0 0, .slice none 0 0, .string ⟨#[]⟩, .int .i64 0, .int .i64 0, .int .i64 0, .slice none 0 0, .string ⟨#[]⟩] 37))
  go_enter Tryz.func7, Tryz.ntmps7
  go_wp2_with fail
  refine (kind_append n1 bt _ _ ⟨_, _, _, rfl⟩).mono ?_
  rintro x w1 ⟨rfl, hb1⟩
  have hz1 := block_below HZ0.out hb1
  have hwb := HB0.out.trans (hb1.mono HB0.out.size)
  have hlt1 := lt_of_block hz1
  have HZ3 : (((w1.alloc (.cells #[.int .i64 11, .slice (some ⟨w1.heap.size + 1 + 1, 0, none⟩) 1 1, .slice none 0 0, .slice none 0 0, .slice none 0 0, .slice none 0 0, .slice none 0 0, .slice none 0 0, .string (B bt.stream), .int .i64 bt.expect, .int .i64 bt.session, .int .i64 bt.seq, .slice a1 m1 c1, .string ⟨#[]⟩] 37)).alloc (.cells #[.int .i64 n1, .string (B bt.stream), .int .i64 bt.expect, .int .i64 bt.session, .int .i64 bt.seq, .slice a1 m1 c1] 75)).alloc (.cells #[.int .i64 n1] 3)).heap[w.heap.size]? = some (.cells #[.int .i64 0, .slice none 0 0, .slice none 0 0, .slice none 0 0, .slice none 0 0, .slice none 0 0, .slice none 0 0, .slice none 0 0, .string ⟨#[]⟩, .int .i64 0, .int .i64 0, .int .i64 0, .slice none 0 0, .string ⟨#[]⟩] 37 (0, 0)) := block_below hz1 (((((Below.refl _ w1).alloc (Nat.le_refl _) _).alloc (by simp) _).alloc (by simp; omega) _))
  have HB3 : Below w.heap.size w (((w1.alloc (.cells #[.int .i64 11, .slice (some ⟨w1.heap.size + 1 + 1, 0, none⟩) 1 1, .slice none 0 0, .slice none 0 0, .slice none 0 0, .slice none 0 0, .slice none 0 0, .slice none 0 0, .string (B bt.stream), .int .i64 bt.expect, .int .i64 bt.session, .int .i64 bt.seq, .slice a1 m1 c1, .string ⟨#[]⟩] 37)).alloc (.cells #[.int .i64 n1, .string (B bt.stream), .int .i64 bt.expect, .int .i64 bt.session, .int .i64 bt.seq, .slice a1 m1 c1] 75)).alloc (.cells #[.int .i64 n1] 3)) := ((hwb.alloc hwb.size _).alloc (by have := hwb.size; simp; omega) _).alloc (by have := hwb.size; simp; omega) _
  have hf0 : (((w1.alloc (.cells #[.int .i64 11, .slice (some ⟨w1.heap.size + 1 + 1, 0, none⟩) 1 1, .slice none 0 0, .slice none 0 0, .slice none 0 0, .slice none 0 0, .slice none 0 0, .slice none 0 0, .string (B bt.stream), .int .i64 bt.expect, .int .i64 bt.session, .int .i64 bt.seq, .slice a1 m1 c1, .string ⟨#[]⟩] 37)).alloc (.cells #[.int .i64 n1, .string (B bt.stream), .int .i64 bt.expect, .int .i64 bt.session, .int .i64 bt.seq, .slice a1 m1 c1] 75)).alloc (.cells #[.int .i64 n1] 3)).heap[w1.heap.size]? = some (.cells #[.int .i64 11, .slice (some ⟨w1.heap.size + 1 + 1, 0, none⟩) 1 1, .slice none 0 0, .slice none 0 0, .slice none 0 0, .slice none 0 0, .slice none 0 0, .slice none 0 0, .string (B bt.stream), .int .i64 bt.expect, .int .i64 bt.session, .int .i64 bt.seq, .slice a1 m1 c1, .string ⟨#[]⟩] 37 (0, 0)) := new_at3 rfl
  have HF : Hid ((((w1.alloc (.cells #[.int .i64 11, .slice (some ⟨w1.heap.size + 1 + 1, 0, none⟩) 1 1, .slice none 0 0, .slice none 0 0, .slice none 0 0, .slice none 0 0, .slice none 0 0, .slice none 0 0, .string (B bt.stream), .int .i64 bt.expect, .int .i64 bt.session, .int .i64 bt.seq, .slice a1 m1 c1, .string ⟨#[]⟩] 37)).alloc (.cells #[.int .i64 n1, .string (B bt.stream), .int .i64 bt.expect, .int .i64 bt.session, .int .i64 bt.seq, .slice a1 m1 c1] 75)).alloc (.cells #[.int .i64 n1] 3)).heap[w1.heap.size]? = some (.cells #[.int .i64 11, .slice (some ⟨w1.heap.size + 1 + 1, 0, none⟩) 1 1, .slice none 0 0, .slice none 0 0, .slice none 0 0, .slice none 0 0, .slice none 0 0, .slice none 0 0, .string (B bt.stream), .int .i64 bt.expect, .int .i64 bt.session, .int .i64 bt.seq, .slice a1 m1 c1, .string ⟨#[]⟩] 37 (0, 0))) := Lib.hid (hf0)
  have HQ : Hid ((((w1.alloc (.cells #[.int .i64 11, .slice (some ⟨w1.heap.size + 1 + 1, 0, none⟩) 1 1, .slice none 0 0, .slice none 0 0, .slice none 0 0, .slice none 0 0, .slice none 0 0, .slice none 0 0, .string (B bt.stream), .int .i64 bt.expect, .int .i64 bt.session, .int .i64 bt.seq, .slice a1 m1 c1, .string ⟨#[]⟩] 37)).alloc (.cells #[.int .i64 n1, .string (B bt.stream), .int .i64 bt.expect, .int .i64 bt.session, .int .i64 bt.seq, .slice a1 m1 c1] 75)).alloc (.cells #[.int .i64 n1] 3)).heap[w1.heap.size + 1 + 1]? = some (.cells (intsA [n1]) 3 (0, 0))) := Lib.hid (new_at (by simp))
  have HZZ : Hid ((((w1.alloc (.cells #[.int .i64 11, .slice (some ⟨w1.heap.size + 1 + 1, 0, none⟩) 1 1, .slice none 0 0, .slice none 0 0, .slice none 0 0, .slice none 0 0, .slice none 0 0, .slice none 0 0, .string (B bt.stream), .int .i64 bt.expect, .int .i64 bt.session, .int .i64 bt.seq, .slice a1 m1 c1, .string ⟨#[]⟩] 37)).alloc (.cells #[.int .i64 n1, .string (B bt.stream), .int .i64 bt.expect, .int .i64 bt.session, .int .i64 bt.seq, .slice a1 m1 c1] 75)).alloc (.cells #[.int .i64 n1] 3)).heap[w.heap.size]? = some (.cells #[.int .i64 0, .slice none 0 0, .slice none 0 0, .slice none 0 0, .slice none 0 0, .slice none 0 0, .slice none 0 0, .slice none 0 0, .string ⟨#[]⟩, .int .i64 0, .int .i64 0, .int .i64 0, .slice none 0 0, .string ⟨#[]⟩] 37 (0, 0))) := Lib.hid (HZ3)
  have HBB : Hid (Below w.heap.size w (((w1.alloc (.cells #[.int .i64 11, .slice (some ⟨w1.heap.size + 1 + 1, 0, none⟩) 1 1, .slice none 0 0, .slice none 0 0, .slice none 0 0, .slice none 0 0, .slice none 0 0, .slice none 0 0, .string (B bt.stream), .int .i64 bt.expect, .int .i64 bt.session, .int .i64 bt.seq, .slice a1 m1 c1, .string ⟨#[]⟩] 37)).alloc (.cells #[.int .i64 n1, .string (B bt.stream), .int .i64 bt.expect, .int .i64 bt.session, .int .i64 bt.seq, .slice a1 m1 c1] 75)).alloc (.cells #[.int .i64 n1] 3))) := Lib.hid (HB3)
  have hsz1 := hwb.size
  clear HZ3 HB3 hz1 hb1 hwb HZ0 HB0 hf0
  go_upto_region 57 with (fail)
  generalize (((w1.alloc (.cells #[.int .i64 11, .slice (some ⟨w1.heap.size + 1 + 1, 0, none⟩) 1 1, .slice none 0 0, .slice none 0 0, .slice none 0 0, .slice none 0 0, .slice none 0 0, .slice none 0 0, .string (B bt.stream), .int .i64 bt.expect, .int .i64 bt.session, .int .i64 bt.seq, .slice a1 m1 c1, .string ⟨#[]⟩] 37)).alloc (.cells #[.int .i64 n1, .string (B bt.stream), .int .i64 bt.expect, .int .i64 bt.session, .int .i64 bt.seq, .slice a1 m1 c1] 75)).alloc (.cells #[.int .i64 n1] 3)) = W9 at HF HQ HZZ HBB ⊢
  refine wp_region_lit ?_
  refine wpList_load_row rfl 37 (.tmp 4) rfl w1.heap.size rfl 37 #[.int .i64 11, .slice (some ⟨w1.heap.size + 1 + 1, 0, none⟩) 1 1, .slice none 0 0, .slice none 0 0, .slice none 0 0, .slice none 0 0, .slice none 0 0, .slice none 0 0, .string (B bt.stream), .int .i64 bt.expect, .int .i64 bt.session, .int .i64 bt.seq, .slice a1 m1 c1, .string ⟨#[]⟩] (0, 0) _ HF.out Tryz.underlying37 rfl (by kernel_rfl) ?_
  refine wpList_store_row rfl 37 (.tmp 2) (.tmp 208) rfl w.heap.size #[.int .i64 11, .slice (some ⟨w1.heap.size + 1 + 1, 0, none⟩) 1 1, .slice none 0 0, .slice none 0 0, .slice none 0 0, .slice none 0 0, .slice none 0 0, .slice none 0 0, .string (B bt.stream), .int .i64 bt.expect, .int .i64 bt.session, .int .i64 bt.seq, .slice a1 m1 c1, .string ⟨#[]⟩] rfl rfl 37 #[.int .i64 0, .slice none 0 0, .slice none 0 0, .slice none 0 0, .slice none 0 0, .slice none 0 0, .slice none 0 0, .slice none 0 0, .string ⟨#[]⟩, .int .i64 0, .int .i64 0, .int .i64 0, .slice none 0 0, .string ⟨#[]⟩] HZZ.out (by kernel_rfl) rfl (by simp [Value.oneCell']) ?_
  obtain ⟨w9, HW9, HK, HB9, HQ9⟩ := row14 (cs := #[.int .i64 11, .slice (some ⟨w1.heap.size + 1 + 1, 0, none⟩) 1 1, .slice none 0 0, .slice none 0 0, .slice none 0 0, .slice none 0 0, .slice none 0 0, .slice none 0 0, .string (B bt.stream), .int .i64 bt.expect, .int .i64 bt.session, .int .i64 bt.seq, .slice a1 m1 c1, .string ⟨#[]⟩]) HZZ.out HBB.out HQ.out (by omega)
  rw [← HW9.out]
  clear HW9 HF HZZ HBB HQ
  have hld := run_loadVar_row (P := Tryz.prog) w9 w.heap.size 37 37 #[.int .i64 11, .slice (some ⟨w1.heap.size + 1 + 1, 0, none⟩) 1 1, .slice none 0 0, .slice none 0 0, .slice none 0 0, .slice none 0 0, .slice none 0 0, .slice none 0 0, .string (B bt.stream), .int .i64 bt.expect, .int .i64 bt.session, .int .i64 bt.seq, .slice a1 m1 c1, .string ⟨#[]⟩] (0, 0) _ HK.out Tryz.underlying37 rfl (by kernel_rfl)
  have HLD := Lib.hid hld
  clear hld
  go_wp2
  (try simp only [Exit.inBlock, Exit.then])
  refine bodyPost_ret (v := .tuple #[.agg #[.int .i64 11, .slice (some ⟨w1.heap.size + 1 + 1, 0, none⟩) 1 1, .slice none 0 0, .slice none 0 0, .slice none 0 0, .slice none 0 0, .slice none 0 0, .slice none 0 0, .string (B bt.stream), .int .i64 bt.expect, .int .i64 bt.session, .int .i64 bt.seq, .slice a1 m1 c1, .string ⟨#[]⟩], .bool true]) ?_ rfl ⟨_, rfl, HQ9.out, HB9.out, by omega⟩
  rw [results_cell_tmp rfl]
  simp [asAddr, Result.andThen, HLD.out]

set_option maxHeartbeats 1000000 in
set_option maxRecDepth 100000 in
theorem kind_read (n1 n2 : Int) (s : List UInt8) (w : World) : Calls Tryz.prog 130 #[.agg #[.int .i64 n1, .string (B s), .int .i64 n2]] w fun x w' => x = .returned (.int .i64 12) ∧ Below w.heap.size w w' := by
  go_enter Tryz.func130, Tryz.ntmps130
  go_wp2
  go_ret
  exact ⟨rfl, by go_grown⟩

set_option maxHeartbeats 4000000 in
set_option maxRecDepth 100000 in
theorem flat_read (n1 n2 : Int) (s : List UInt8) (w : World) :
    Calls Tryz.prog 7 #[.iface 77 (.agg #[.int .i64 n1, .string (B s), .int .i64 n2])] w fun x w' => ∃ q, x = .returned (.tuple #[.agg #[.int .i64 12, .slice (some ⟨q, 0, none⟩) 2 2, .slice none 0 0, .slice none 0 0, .slice none 0 0, .slice none 0 0, .slice none 0 0, .slice none 0 0, .string ⟨#[]⟩, .int .i64 0, .int .i64 0, .int .i64 0, .slice none 0 0, .string (B s)], .bool true]) ∧ w'.heap[q]? = some (.cells (intsA [n1, n2]) 3 (0, 0)) ∧ Below w.heap.size w w' ∧ w.heap.size ≤ q := by
  have hnn := not_nil
  have as0 := fun v W => Tryz.no_beat 77 v W (by decide)
  have as1 := fun v W => Tryz.no_join 77 v W (by decide)
  have as2 := fun v W => Tryz.no_lease 77 v W (by decide)
  have as3 := fun v W => Tryz.no_view 77 v W (by decide)
  have as4 := fun v W => Tryz.no_where 77 v W (by decide)
  have as5 := fun v W => Tryz.no_have 77 v W (by decide)
  have as6 := fun v W => Tryz.no_logs 77 v W (by decide)
  have as7 := fun v W => Tryz.no_ack 77 v W (by decide)
  have as8 := fun v W => Tryz.no_ask 77 v W (by decide)
  have as9 := fun v W => Tryz.no_told 77 v W (by decide)
  have as10 := fun v W => Tryz.no_append 77 v W (by decide)
  have as11 := fun v W => Tryz.yes_read v W
  have HZ0 : Hid ((w.alloc (.cells #[.int .i64 0, .slice none 0 0, .slice none 0 0, .slice none 0 0, .slice none 0 0, .slice none 0 0, .slice none 0 0, .slice none 0 0, .string ⟨#[]⟩, .int .i64 0, .int .i64 0, .int .i64 0, .slice none 0 0, .string ⟨#[]⟩] 37)).heap[w.heap.size]? = some (.cells #[.int .i64 0, .slice none 0 0, .slice none 0 0, .slice none 0 0, .slice none 0 0, .slice none 0 0, .slice none 0 0, .slice none 0 0, .string ⟨#[]⟩, .int .i64 0, .int .i64 0, .int .i64 0, .slice none 0 0, .string ⟨#[]⟩] 37 (0, 0))) := Lib.hid (new_at rfl)
  have HB0 := Lib.hid ((Below.refl _ w).alloc (Nat.le_refl _) (.cells #[.int .i64 0, .slice none 0 0, .slice none 0 0, .slice none 0 0, .slice none 0 0, .slice none 0 0, .slice none 0 0, .slice none 0 0, .string ⟨#[]⟩, .int .i64 0, .int .i64 0, .int .i64 0, .slice none 0 0, .string ⟨#[]⟩] 37))
  go_enter Tryz.func7, Tryz.ntmps7
  go_wp2_with fail
  refine (kind_read n1 n2 s _).mono ?_
  rintro x w1 ⟨rfl, hb1⟩
  have hz1 := block_below HZ0.out hb1
  have hwb := HB0.out.trans (hb1.mono HB0.out.size)
  have hlt1 := lt_of_block hz1
  have HZ3 : (((w1.alloc (.cells #[.int .i64 12, .slice (some ⟨w1.heap.size + 1 + 1, 0, none⟩) 2 2, .slice none 0 0, .slice none 0 0, .slice none 0 0, .slice none 0 0, .slice none 0 0, .slice none 0 0, .string ⟨#[]⟩, .int .i64 0, .int .i64 0, .int .i64 0, .slice none 0 0, .string (B s)] 37)).alloc (.cells #[.int .i64 n1, .string (B s), .int .i64 n2] 77)).alloc (.cells #[.int .i64 n1, .int .i64 n2] 3)).heap[w.heap.size]? = some (.cells #[.int .i64 0, .slice none 0 0, .slice none 0 0, .slice none 0 0, .slice none 0 0, .slice none 0 0, .slice none 0 0, .slice none 0 0, .string ⟨#[]⟩, .int .i64 0, .int .i64 0, .int .i64 0, .slice none 0 0, .string ⟨#[]⟩] 37 (0, 0)) := block_below hz1 (((((Below.refl _ w1).alloc (Nat.le_refl _) _).alloc (by simp) _).alloc (by simp; omega) _))
  have HB3 : Below w.heap.size w (((w1.alloc (.cells #[.int .i64 12, .slice (some ⟨w1.heap.size + 1 + 1, 0, none⟩) 2 2, .slice none 0 0, .slice none 0 0, .slice none 0 0, .slice none 0 0, .slice none 0 0, .slice none 0 0, .string ⟨#[]⟩, .int .i64 0, .int .i64 0, .int .i64 0, .slice none 0 0, .string (B s)] 37)).alloc (.cells #[.int .i64 n1, .string (B s), .int .i64 n2] 77)).alloc (.cells #[.int .i64 n1, .int .i64 n2] 3)) := ((hwb.alloc hwb.size _).alloc (by have := hwb.size; simp; omega) _).alloc (by have := hwb.size; simp; omega) _
  have hf0 : (((w1.alloc (.cells #[.int .i64 12, .slice (some ⟨w1.heap.size + 1 + 1, 0, none⟩) 2 2, .slice none 0 0, .slice none 0 0, .slice none 0 0, .slice none 0 0, .slice none 0 0, .slice none 0 0, .string ⟨#[]⟩, .int .i64 0, .int .i64 0, .int .i64 0, .slice none 0 0, .string (B s)] 37)).alloc (.cells #[.int .i64 n1, .string (B s), .int .i64 n2] 77)).alloc (.cells #[.int .i64 n1, .int .i64 n2] 3)).heap[w1.heap.size]? = some (.cells #[.int .i64 12, .slice (some ⟨w1.heap.size + 1 + 1, 0, none⟩) 2 2, .slice none 0 0, .slice none 0 0, .slice none 0 0, .slice none 0 0, .slice none 0 0, .slice none 0 0, .string ⟨#[]⟩, .int .i64 0, .int .i64 0, .int .i64 0, .slice none 0 0, .string (B s)] 37 (0, 0)) := new_at3 rfl
  have HF : Hid ((((w1.alloc (.cells #[.int .i64 12, .slice (some ⟨w1.heap.size + 1 + 1, 0, none⟩) 2 2, .slice none 0 0, .slice none 0 0, .slice none 0 0, .slice none 0 0, .slice none 0 0, .slice none 0 0, .string ⟨#[]⟩, .int .i64 0, .int .i64 0, .int .i64 0, .slice none 0 0, .string (B s)] 37)).alloc (.cells #[.int .i64 n1, .string (B s), .int .i64 n2] 77)).alloc (.cells #[.int .i64 n1, .int .i64 n2] 3)).heap[w1.heap.size]? = some (.cells #[.int .i64 12, .slice (some ⟨w1.heap.size + 1 + 1, 0, none⟩) 2 2, .slice none 0 0, .slice none 0 0, .slice none 0 0, .slice none 0 0, .slice none 0 0, .slice none 0 0, .string ⟨#[]⟩, .int .i64 0, .int .i64 0, .int .i64 0, .slice none 0 0, .string (B s)] 37 (0, 0))) := Lib.hid (hf0)
  have HQ : Hid ((((w1.alloc (.cells #[.int .i64 12, .slice (some ⟨w1.heap.size + 1 + 1, 0, none⟩) 2 2, .slice none 0 0, .slice none 0 0, .slice none 0 0, .slice none 0 0, .slice none 0 0, .slice none 0 0, .string ⟨#[]⟩, .int .i64 0, .int .i64 0, .int .i64 0, .slice none 0 0, .string (B s)] 37)).alloc (.cells #[.int .i64 n1, .string (B s), .int .i64 n2] 77)).alloc (.cells #[.int .i64 n1, .int .i64 n2] 3)).heap[w1.heap.size + 1 + 1]? = some (.cells (intsA [n1, n2]) 3 (0, 0))) := Lib.hid (new_at (by simp))
  have HZZ : Hid ((((w1.alloc (.cells #[.int .i64 12, .slice (some ⟨w1.heap.size + 1 + 1, 0, none⟩) 2 2, .slice none 0 0, .slice none 0 0, .slice none 0 0, .slice none 0 0, .slice none 0 0, .slice none 0 0, .string ⟨#[]⟩, .int .i64 0, .int .i64 0, .int .i64 0, .slice none 0 0, .string (B s)] 37)).alloc (.cells #[.int .i64 n1, .string (B s), .int .i64 n2] 77)).alloc (.cells #[.int .i64 n1, .int .i64 n2] 3)).heap[w.heap.size]? = some (.cells #[.int .i64 0, .slice none 0 0, .slice none 0 0, .slice none 0 0, .slice none 0 0, .slice none 0 0, .slice none 0 0, .slice none 0 0, .string ⟨#[]⟩, .int .i64 0, .int .i64 0, .int .i64 0, .slice none 0 0, .string ⟨#[]⟩] 37 (0, 0))) := Lib.hid (HZ3)
  have HBB : Hid (Below w.heap.size w (((w1.alloc (.cells #[.int .i64 12, .slice (some ⟨w1.heap.size + 1 + 1, 0, none⟩) 2 2, .slice none 0 0, .slice none 0 0, .slice none 0 0, .slice none 0 0, .slice none 0 0, .slice none 0 0, .string ⟨#[]⟩, .int .i64 0, .int .i64 0, .int .i64 0, .slice none 0 0, .string (B s)] 37)).alloc (.cells #[.int .i64 n1, .string (B s), .int .i64 n2] 77)).alloc (.cells #[.int .i64 n1, .int .i64 n2] 3))) := Lib.hid (HB3)
  have hsz1 := hwb.size
  clear HZ3 HB3 hz1 hb1 hwb HZ0 HB0 hf0
  go_upto_region 57 with (fail)
  generalize (((w1.alloc (.cells #[.int .i64 12, .slice (some ⟨w1.heap.size + 1 + 1, 0, none⟩) 2 2, .slice none 0 0, .slice none 0 0, .slice none 0 0, .slice none 0 0, .slice none 0 0, .slice none 0 0, .string ⟨#[]⟩, .int .i64 0, .int .i64 0, .int .i64 0, .slice none 0 0, .string (B s)] 37)).alloc (.cells #[.int .i64 n1, .string (B s), .int .i64 n2] 77)).alloc (.cells #[.int .i64 n1, .int .i64 n2] 3)) = W9 at HF HQ HZZ HBB ⊢
  refine wp_region_lit ?_
  refine wpList_load_row rfl 37 (.tmp 4) rfl w1.heap.size rfl 37 #[.int .i64 12, .slice (some ⟨w1.heap.size + 1 + 1, 0, none⟩) 2 2, .slice none 0 0, .slice none 0 0, .slice none 0 0, .slice none 0 0, .slice none 0 0, .slice none 0 0, .string ⟨#[]⟩, .int .i64 0, .int .i64 0, .int .i64 0, .slice none 0 0, .string (B s)] (0, 0) _ HF.out Tryz.underlying37 rfl (by kernel_rfl) ?_
  refine wpList_store_row rfl 37 (.tmp 2) (.tmp 208) rfl w.heap.size #[.int .i64 12, .slice (some ⟨w1.heap.size + 1 + 1, 0, none⟩) 2 2, .slice none 0 0, .slice none 0 0, .slice none 0 0, .slice none 0 0, .slice none 0 0, .slice none 0 0, .string ⟨#[]⟩, .int .i64 0, .int .i64 0, .int .i64 0, .slice none 0 0, .string (B s)] rfl rfl 37 #[.int .i64 0, .slice none 0 0, .slice none 0 0, .slice none 0 0, .slice none 0 0, .slice none 0 0, .slice none 0 0, .slice none 0 0, .string ⟨#[]⟩, .int .i64 0, .int .i64 0, .int .i64 0, .slice none 0 0, .string ⟨#[]⟩] HZZ.out (by kernel_rfl) rfl (by simp [Value.oneCell']) ?_
  obtain ⟨w9, HW9, HK, HB9, HQ9⟩ := row14 (cs := #[.int .i64 12, .slice (some ⟨w1.heap.size + 1 + 1, 0, none⟩) 2 2, .slice none 0 0, .slice none 0 0, .slice none 0 0, .slice none 0 0, .slice none 0 0, .slice none 0 0, .string ⟨#[]⟩, .int .i64 0, .int .i64 0, .int .i64 0, .slice none 0 0, .string (B s)]) HZZ.out HBB.out HQ.out (by omega)
  rw [← HW9.out]
  clear HW9 HF HZZ HBB HQ
  have hld := run_loadVar_row (P := Tryz.prog) w9 w.heap.size 37 37 #[.int .i64 12, .slice (some ⟨w1.heap.size + 1 + 1, 0, none⟩) 2 2, .slice none 0 0, .slice none 0 0, .slice none 0 0, .slice none 0 0, .slice none 0 0, .slice none 0 0, .string ⟨#[]⟩, .int .i64 0, .int .i64 0, .int .i64 0, .slice none 0 0, .string (B s)] (0, 0) _ HK.out Tryz.underlying37 rfl (by kernel_rfl)
  have HLD := Lib.hid hld
  clear hld
  go_wp2
  (try simp only [Exit.inBlock, Exit.then])
  refine bodyPost_ret (v := .tuple #[.agg #[.int .i64 12, .slice (some ⟨w1.heap.size + 1 + 1, 0, none⟩) 2 2, .slice none 0 0, .slice none 0 0, .slice none 0 0, .slice none 0 0, .slice none 0 0, .slice none 0 0, .string ⟨#[]⟩, .int .i64 0, .int .i64 0, .int .i64 0, .slice none 0 0, .string (B s)], .bool true]) ?_ rfl ⟨_, rfl, HQ9.out, HB9.out, by omega⟩
  rw [results_cell_tmp rfl]
  simp [asAddr, Result.andThen, HLD.out]

set_option maxHeartbeats 1000000 in
set_option maxRecDepth 100000 in
theorem kind_reply (n1 n2 n3 n4 n5 n6 : Int) (w : World) : Calls Tryz.prog 131 #[.agg #[.int .i64 n1, .int .i64 n2, .int .i64 n3, .int .i64 n4, .int .i64 n5, .int .i64 n6]] w fun x w' => x = .returned (.int .i64 13) ∧ Below w.heap.size w w' := by
  go_enter Tryz.func131, Tryz.ntmps131
  go_wp2
  go_ret
  exact ⟨rfl, by go_grown⟩

set_option maxHeartbeats 4000000 in
set_option maxRecDepth 100000 in
theorem flat_reply (n1 n2 n3 n4 n5 n6 : Int) (w : World) :
    Calls Tryz.prog 7 #[.iface 81 (.agg #[.int .i64 n1, .int .i64 n2, .int .i64 n3, .int .i64 n4, .int .i64 n5, .int .i64 n6])] w fun x w' => ∃ q, x = .returned (.tuple #[.agg #[.int .i64 13, .slice (some ⟨q, 0, none⟩) 6 6, .slice none 0 0, .slice none 0 0, .slice none 0 0, .slice none 0 0, .slice none 0 0, .slice none 0 0, .string ⟨#[]⟩, .int .i64 0, .int .i64 0, .int .i64 0, .slice none 0 0, .string ⟨#[]⟩], .bool true]) ∧ w'.heap[q]? = some (.cells (intsA [n1, n2, n3, n4, n5, n6]) 3 (0, 0)) ∧ Below w.heap.size w w' ∧ w.heap.size ≤ q := by
  have hnn := not_nil
  have as0 := fun v W => Tryz.no_beat 81 v W (by decide)
  have as1 := fun v W => Tryz.no_join 81 v W (by decide)
  have as2 := fun v W => Tryz.no_lease 81 v W (by decide)
  have as3 := fun v W => Tryz.no_view 81 v W (by decide)
  have as4 := fun v W => Tryz.no_where 81 v W (by decide)
  have as5 := fun v W => Tryz.no_have 81 v W (by decide)
  have as6 := fun v W => Tryz.no_logs 81 v W (by decide)
  have as7 := fun v W => Tryz.no_ack 81 v W (by decide)
  have as8 := fun v W => Tryz.no_ask 81 v W (by decide)
  have as9 := fun v W => Tryz.no_told 81 v W (by decide)
  have as10 := fun v W => Tryz.no_append 81 v W (by decide)
  have as11 := fun v W => Tryz.no_read 81 v W (by decide)
  have as12 := fun v W => Tryz.yes_reply v W
  have HZ0 : Hid ((w.alloc (.cells #[.int .i64 0, .slice none 0 0, .slice none 0 0, .slice none 0 0, .slice none 0 0, .slice none 0 0, .slice none 0 0, .slice none 0 0, .string ⟨#[]⟩, .int .i64 0, .int .i64 0, .int .i64 0, .slice none 0 0, .string ⟨#[]⟩] 37)).heap[w.heap.size]? = some (.cells #[.int .i64 0, .slice none 0 0, .slice none 0 0, .slice none 0 0, .slice none 0 0, .slice none 0 0, .slice none 0 0, .slice none 0 0, .string ⟨#[]⟩, .int .i64 0, .int .i64 0, .int .i64 0, .slice none 0 0, .string ⟨#[]⟩] 37 (0, 0))) := Lib.hid (new_at rfl)
  have HB0 := Lib.hid ((Below.refl _ w).alloc (Nat.le_refl _) (.cells #[.int .i64 0, .slice none 0 0, .slice none 0 0, .slice none 0 0, .slice none 0 0, .slice none 0 0, .slice none 0 0, .slice none 0 0, .string ⟨#[]⟩, .int .i64 0, .int .i64 0, .int .i64 0, .slice none 0 0, .string ⟨#[]⟩] 37))
  go_enter Tryz.func7, Tryz.ntmps7
  go_wp2_with fail
  refine (kind_reply n1 n2 n3 n4 n5 n6 _).mono ?_
  rintro x w1 ⟨rfl, hb1⟩
  have hz1 := block_below HZ0.out hb1
  have hwb := HB0.out.trans (hb1.mono HB0.out.size)
  have hlt1 := lt_of_block hz1
  have HZ3 : (((w1.alloc (.cells #[.int .i64 13, .slice (some ⟨w1.heap.size + 1 + 1, 0, none⟩) 6 6, .slice none 0 0, .slice none 0 0, .slice none 0 0, .slice none 0 0, .slice none 0 0, .slice none 0 0, .string ⟨#[]⟩, .int .i64 0, .int .i64 0, .int .i64 0, .slice none 0 0, .string ⟨#[]⟩] 37)).alloc (.cells #[.int .i64 n1, .int .i64 n2, .int .i64 n3, .int .i64 n4, .int .i64 n5, .int .i64 n6] 81)).alloc (.cells #[.int .i64 n1, .int .i64 n2, .int .i64 n3, .int .i64 n4, .int .i64 n5, .int .i64 n6] 3)).heap[w.heap.size]? = some (.cells #[.int .i64 0, .slice none 0 0, .slice none 0 0, .slice none 0 0, .slice none 0 0, .slice none 0 0, .slice none 0 0, .slice none 0 0, .string ⟨#[]⟩, .int .i64 0, .int .i64 0, .int .i64 0, .slice none 0 0, .string ⟨#[]⟩] 37 (0, 0)) := block_below hz1 (((((Below.refl _ w1).alloc (Nat.le_refl _) _).alloc (by simp) _).alloc (by simp; omega) _))
  have HB3 : Below w.heap.size w (((w1.alloc (.cells #[.int .i64 13, .slice (some ⟨w1.heap.size + 1 + 1, 0, none⟩) 6 6, .slice none 0 0, .slice none 0 0, .slice none 0 0, .slice none 0 0, .slice none 0 0, .slice none 0 0, .string ⟨#[]⟩, .int .i64 0, .int .i64 0, .int .i64 0, .slice none 0 0, .string ⟨#[]⟩] 37)).alloc (.cells #[.int .i64 n1, .int .i64 n2, .int .i64 n3, .int .i64 n4, .int .i64 n5, .int .i64 n6] 81)).alloc (.cells #[.int .i64 n1, .int .i64 n2, .int .i64 n3, .int .i64 n4, .int .i64 n5, .int .i64 n6] 3)) := ((hwb.alloc hwb.size _).alloc (by have := hwb.size; simp; omega) _).alloc (by have := hwb.size; simp; omega) _
  have hf0 : (((w1.alloc (.cells #[.int .i64 13, .slice (some ⟨w1.heap.size + 1 + 1, 0, none⟩) 6 6, .slice none 0 0, .slice none 0 0, .slice none 0 0, .slice none 0 0, .slice none 0 0, .slice none 0 0, .string ⟨#[]⟩, .int .i64 0, .int .i64 0, .int .i64 0, .slice none 0 0, .string ⟨#[]⟩] 37)).alloc (.cells #[.int .i64 n1, .int .i64 n2, .int .i64 n3, .int .i64 n4, .int .i64 n5, .int .i64 n6] 81)).alloc (.cells #[.int .i64 n1, .int .i64 n2, .int .i64 n3, .int .i64 n4, .int .i64 n5, .int .i64 n6] 3)).heap[w1.heap.size]? = some (.cells #[.int .i64 13, .slice (some ⟨w1.heap.size + 1 + 1, 0, none⟩) 6 6, .slice none 0 0, .slice none 0 0, .slice none 0 0, .slice none 0 0, .slice none 0 0, .slice none 0 0, .string ⟨#[]⟩, .int .i64 0, .int .i64 0, .int .i64 0, .slice none 0 0, .string ⟨#[]⟩] 37 (0, 0)) := new_at3 rfl
  have HF : Hid ((((w1.alloc (.cells #[.int .i64 13, .slice (some ⟨w1.heap.size + 1 + 1, 0, none⟩) 6 6, .slice none 0 0, .slice none 0 0, .slice none 0 0, .slice none 0 0, .slice none 0 0, .slice none 0 0, .string ⟨#[]⟩, .int .i64 0, .int .i64 0, .int .i64 0, .slice none 0 0, .string ⟨#[]⟩] 37)).alloc (.cells #[.int .i64 n1, .int .i64 n2, .int .i64 n3, .int .i64 n4, .int .i64 n5, .int .i64 n6] 81)).alloc (.cells #[.int .i64 n1, .int .i64 n2, .int .i64 n3, .int .i64 n4, .int .i64 n5, .int .i64 n6] 3)).heap[w1.heap.size]? = some (.cells #[.int .i64 13, .slice (some ⟨w1.heap.size + 1 + 1, 0, none⟩) 6 6, .slice none 0 0, .slice none 0 0, .slice none 0 0, .slice none 0 0, .slice none 0 0, .slice none 0 0, .string ⟨#[]⟩, .int .i64 0, .int .i64 0, .int .i64 0, .slice none 0 0, .string ⟨#[]⟩] 37 (0, 0))) := Lib.hid (hf0)
  have HQ : Hid ((((w1.alloc (.cells #[.int .i64 13, .slice (some ⟨w1.heap.size + 1 + 1, 0, none⟩) 6 6, .slice none 0 0, .slice none 0 0, .slice none 0 0, .slice none 0 0, .slice none 0 0, .slice none 0 0, .string ⟨#[]⟩, .int .i64 0, .int .i64 0, .int .i64 0, .slice none 0 0, .string ⟨#[]⟩] 37)).alloc (.cells #[.int .i64 n1, .int .i64 n2, .int .i64 n3, .int .i64 n4, .int .i64 n5, .int .i64 n6] 81)).alloc (.cells #[.int .i64 n1, .int .i64 n2, .int .i64 n3, .int .i64 n4, .int .i64 n5, .int .i64 n6] 3)).heap[w1.heap.size + 1 + 1]? = some (.cells (intsA [n1, n2, n3, n4, n5, n6]) 3 (0, 0))) := Lib.hid (new_at (by simp))
  have HZZ : Hid ((((w1.alloc (.cells #[.int .i64 13, .slice (some ⟨w1.heap.size + 1 + 1, 0, none⟩) 6 6, .slice none 0 0, .slice none 0 0, .slice none 0 0, .slice none 0 0, .slice none 0 0, .slice none 0 0, .string ⟨#[]⟩, .int .i64 0, .int .i64 0, .int .i64 0, .slice none 0 0, .string ⟨#[]⟩] 37)).alloc (.cells #[.int .i64 n1, .int .i64 n2, .int .i64 n3, .int .i64 n4, .int .i64 n5, .int .i64 n6] 81)).alloc (.cells #[.int .i64 n1, .int .i64 n2, .int .i64 n3, .int .i64 n4, .int .i64 n5, .int .i64 n6] 3)).heap[w.heap.size]? = some (.cells #[.int .i64 0, .slice none 0 0, .slice none 0 0, .slice none 0 0, .slice none 0 0, .slice none 0 0, .slice none 0 0, .slice none 0 0, .string ⟨#[]⟩, .int .i64 0, .int .i64 0, .int .i64 0, .slice none 0 0, .string ⟨#[]⟩] 37 (0, 0))) := Lib.hid (HZ3)
  have HBB : Hid (Below w.heap.size w (((w1.alloc (.cells #[.int .i64 13, .slice (some ⟨w1.heap.size + 1 + 1, 0, none⟩) 6 6, .slice none 0 0, .slice none 0 0, .slice none 0 0, .slice none 0 0, .slice none 0 0, .slice none 0 0, .string ⟨#[]⟩, .int .i64 0, .int .i64 0, .int .i64 0, .slice none 0 0, .string ⟨#[]⟩] 37)).alloc (.cells #[.int .i64 n1, .int .i64 n2, .int .i64 n3, .int .i64 n4, .int .i64 n5, .int .i64 n6] 81)).alloc (.cells #[.int .i64 n1, .int .i64 n2, .int .i64 n3, .int .i64 n4, .int .i64 n5, .int .i64 n6] 3))) := Lib.hid (HB3)
  have hsz1 := hwb.size
  clear HZ3 HB3 hz1 hb1 hwb HZ0 HB0 hf0
  go_upto_region 57 with (fail)
  generalize (((w1.alloc (.cells #[.int .i64 13, .slice (some ⟨w1.heap.size + 1 + 1, 0, none⟩) 6 6, .slice none 0 0, .slice none 0 0, .slice none 0 0, .slice none 0 0, .slice none 0 0, .slice none 0 0, .string ⟨#[]⟩, .int .i64 0, .int .i64 0, .int .i64 0, .slice none 0 0, .string ⟨#[]⟩] 37)).alloc (.cells #[.int .i64 n1, .int .i64 n2, .int .i64 n3, .int .i64 n4, .int .i64 n5, .int .i64 n6] 81)).alloc (.cells #[.int .i64 n1, .int .i64 n2, .int .i64 n3, .int .i64 n4, .int .i64 n5, .int .i64 n6] 3)) = W9 at HF HQ HZZ HBB ⊢
  refine wp_region_lit ?_
  refine wpList_load_row rfl 37 (.tmp 4) rfl w1.heap.size rfl 37 #[.int .i64 13, .slice (some ⟨w1.heap.size + 1 + 1, 0, none⟩) 6 6, .slice none 0 0, .slice none 0 0, .slice none 0 0, .slice none 0 0, .slice none 0 0, .slice none 0 0, .string ⟨#[]⟩, .int .i64 0, .int .i64 0, .int .i64 0, .slice none 0 0, .string ⟨#[]⟩] (0, 0) _ HF.out Tryz.underlying37 rfl (by kernel_rfl) ?_
  refine wpList_store_row rfl 37 (.tmp 2) (.tmp 208) rfl w.heap.size #[.int .i64 13, .slice (some ⟨w1.heap.size + 1 + 1, 0, none⟩) 6 6, .slice none 0 0, .slice none 0 0, .slice none 0 0, .slice none 0 0, .slice none 0 0, .slice none 0 0, .string ⟨#[]⟩, .int .i64 0, .int .i64 0, .int .i64 0, .slice none 0 0, .string ⟨#[]⟩] rfl rfl 37 #[.int .i64 0, .slice none 0 0, .slice none 0 0, .slice none 0 0, .slice none 0 0, .slice none 0 0, .slice none 0 0, .slice none 0 0, .string ⟨#[]⟩, .int .i64 0, .int .i64 0, .int .i64 0, .slice none 0 0, .string ⟨#[]⟩] HZZ.out (by kernel_rfl) rfl (by simp [Value.oneCell']) ?_
  obtain ⟨w9, HW9, HK, HB9, HQ9⟩ := row14 (cs := #[.int .i64 13, .slice (some ⟨w1.heap.size + 1 + 1, 0, none⟩) 6 6, .slice none 0 0, .slice none 0 0, .slice none 0 0, .slice none 0 0, .slice none 0 0, .slice none 0 0, .string ⟨#[]⟩, .int .i64 0, .int .i64 0, .int .i64 0, .slice none 0 0, .string ⟨#[]⟩]) HZZ.out HBB.out HQ.out (by omega)
  rw [← HW9.out]
  clear HW9 HF HZZ HBB HQ
  have hld := run_loadVar_row (P := Tryz.prog) w9 w.heap.size 37 37 #[.int .i64 13, .slice (some ⟨w1.heap.size + 1 + 1, 0, none⟩) 6 6, .slice none 0 0, .slice none 0 0, .slice none 0 0, .slice none 0 0, .slice none 0 0, .slice none 0 0, .string ⟨#[]⟩, .int .i64 0, .int .i64 0, .int .i64 0, .slice none 0 0, .string ⟨#[]⟩] (0, 0) _ HK.out Tryz.underlying37 rfl (by kernel_rfl)
  have HLD := Lib.hid hld
  clear hld
  go_wp2
  (try simp only [Exit.inBlock, Exit.then])
  refine bodyPost_ret (v := .tuple #[.agg #[.int .i64 13, .slice (some ⟨w1.heap.size + 1 + 1, 0, none⟩) 6 6, .slice none 0 0, .slice none 0 0, .slice none 0 0, .slice none 0 0, .slice none 0 0, .slice none 0 0, .string ⟨#[]⟩, .int .i64 0, .int .i64 0, .int .i64 0, .slice none 0 0, .string ⟨#[]⟩], .bool true]) ?_ rfl ⟨_, rfl, HQ9.out, HB9.out, by omega⟩
  rw [results_cell_tmp rfl]
  simp [asAddr, Result.andThen, HLD.out]

set_option maxHeartbeats 1000000 in
set_option maxRecDepth 100000 in
theorem kind_result (n1 n2 n3 : Int) (v1 : Value) (w : World) (hf1 : ∃ a n c, v1 = .slice a n c) : Calls Tryz.prog 132 #[.agg #[.int .i64 n1, .int .i64 n2, .int .i64 n3, v1]] w fun x w' => x = .returned (.int .i64 14) ∧ Below w.heap.size w w' := by
  obtain ⟨a1, m1, c1, rfl⟩ := hf1
  go_enter Tryz.func132, Tryz.ntmps132
  go_wp2
  go_ret
  exact ⟨rfl, by go_grown⟩

set_option maxHeartbeats 4000000 in
set_option maxRecDepth 100000 in
theorem flat_result (n1 n2 n3 : Int) (v1 : Value) (w : World) (hf1 : ∃ a n c, v1 = .slice a n c) :
    Calls Tryz.prog 7 #[.iface 83 (.agg #[.int .i64 n1, .int .i64 n2, .int .i64 n3, v1])] w fun x w' => ∃ q, x = .returned (.tuple #[.agg #[.int .i64 14, .slice (some ⟨q, 0, none⟩) 3 3, .slice none 0 0, .slice none 0 0, .slice none 0 0, .slice none 0 0, .slice none 0 0, v1, .string ⟨#[]⟩, .int .i64 0, .int .i64 0, .int .i64 0, .slice none 0 0, .string ⟨#[]⟩], .bool true]) ∧ w'.heap[q]? = some (.cells (intsA [n1, n2, n3]) 3 (0, 0)) ∧ Below w.heap.size w w' ∧ w.heap.size ≤ q := by
  have hnn := not_nil
  have as0 := fun v W => Tryz.no_beat 83 v W (by decide)
  have as1 := fun v W => Tryz.no_join 83 v W (by decide)
  have as2 := fun v W => Tryz.no_lease 83 v W (by decide)
  have as3 := fun v W => Tryz.no_view 83 v W (by decide)
  have as4 := fun v W => Tryz.no_where 83 v W (by decide)
  have as5 := fun v W => Tryz.no_have 83 v W (by decide)
  have as6 := fun v W => Tryz.no_logs 83 v W (by decide)
  have as7 := fun v W => Tryz.no_ack 83 v W (by decide)
  have as8 := fun v W => Tryz.no_ask 83 v W (by decide)
  have as9 := fun v W => Tryz.no_told 83 v W (by decide)
  have as10 := fun v W => Tryz.no_append 83 v W (by decide)
  have as11 := fun v W => Tryz.no_read 83 v W (by decide)
  have as12 := fun v W => Tryz.no_reply 83 v W (by decide)
  have as13 := fun v W => Tryz.yes_result v W
  obtain ⟨a1, m1, c1, rfl⟩ := hf1
  have HZ0 : Hid ((w.alloc (.cells #[.int .i64 0, .slice none 0 0, .slice none 0 0, .slice none 0 0, .slice none 0 0, .slice none 0 0, .slice none 0 0, .slice none 0 0, .string ⟨#[]⟩, .int .i64 0, .int .i64 0, .int .i64 0, .slice none 0 0, .string ⟨#[]⟩] 37)).heap[w.heap.size]? = some (.cells #[.int .i64 0, .slice none 0 0, .slice none 0 0, .slice none 0 0, .slice none 0 0, .slice none 0 0, .slice none 0 0, .slice none 0 0, .string ⟨#[]⟩, .int .i64 0, .int .i64 0, .int .i64 0, .slice none 0 0, .string ⟨#[]⟩] 37 (0, 0))) := Lib.hid (new_at rfl)
  have HB0 := Lib.hid ((Below.refl _ w).alloc (Nat.le_refl _) (.cells #[.int .i64 0, .slice none 0 0, .slice none 0 0, .slice none 0 0, .slice none 0 0, .slice none 0 0, .slice none 0 0, .slice none 0 0, .string ⟨#[]⟩, .int .i64 0, .int .i64 0, .int .i64 0, .slice none 0 0, .string ⟨#[]⟩] 37))
  go_enter Tryz.func7, Tryz.ntmps7
  go_wp2_with fail
  refine (kind_result n1 n2 n3 _ _ ⟨_, _, _, rfl⟩).mono ?_
  rintro x w1 ⟨rfl, hb1⟩
  have hz1 := block_below HZ0.out hb1
  have hwb := HB0.out.trans (hb1.mono HB0.out.size)
  have hlt1 := lt_of_block hz1
  have HZ3 : (((w1.alloc (.cells #[.int .i64 14, .slice (some ⟨w1.heap.size + 1 + 1, 0, none⟩) 3 3, .slice none 0 0, .slice none 0 0, .slice none 0 0, .slice none 0 0, .slice none 0 0, .slice a1 m1 c1, .string ⟨#[]⟩, .int .i64 0, .int .i64 0, .int .i64 0, .slice none 0 0, .string ⟨#[]⟩] 37)).alloc (.cells #[.int .i64 n1, .int .i64 n2, .int .i64 n3, .slice a1 m1 c1] 83)).alloc (.cells #[.int .i64 n1, .int .i64 n2, .int .i64 n3] 3)).heap[w.heap.size]? = some (.cells #[.int .i64 0, .slice none 0 0, .slice none 0 0, .slice none 0 0, .slice none 0 0, .slice none 0 0, .slice none 0 0, .slice none 0 0, .string ⟨#[]⟩, .int .i64 0, .int .i64 0, .int .i64 0, .slice none 0 0, .string ⟨#[]⟩] 37 (0, 0)) := block_below hz1 (((((Below.refl _ w1).alloc (Nat.le_refl _) _).alloc (by simp) _).alloc (by simp; omega) _))
  have HB3 : Below w.heap.size w (((w1.alloc (.cells #[.int .i64 14, .slice (some ⟨w1.heap.size + 1 + 1, 0, none⟩) 3 3, .slice none 0 0, .slice none 0 0, .slice none 0 0, .slice none 0 0, .slice none 0 0, .slice a1 m1 c1, .string ⟨#[]⟩, .int .i64 0, .int .i64 0, .int .i64 0, .slice none 0 0, .string ⟨#[]⟩] 37)).alloc (.cells #[.int .i64 n1, .int .i64 n2, .int .i64 n3, .slice a1 m1 c1] 83)).alloc (.cells #[.int .i64 n1, .int .i64 n2, .int .i64 n3] 3)) := ((hwb.alloc hwb.size _).alloc (by have := hwb.size; simp; omega) _).alloc (by have := hwb.size; simp; omega) _
  have hf0 : (((w1.alloc (.cells #[.int .i64 14, .slice (some ⟨w1.heap.size + 1 + 1, 0, none⟩) 3 3, .slice none 0 0, .slice none 0 0, .slice none 0 0, .slice none 0 0, .slice none 0 0, .slice a1 m1 c1, .string ⟨#[]⟩, .int .i64 0, .int .i64 0, .int .i64 0, .slice none 0 0, .string ⟨#[]⟩] 37)).alloc (.cells #[.int .i64 n1, .int .i64 n2, .int .i64 n3, .slice a1 m1 c1] 83)).alloc (.cells #[.int .i64 n1, .int .i64 n2, .int .i64 n3] 3)).heap[w1.heap.size]? = some (.cells #[.int .i64 14, .slice (some ⟨w1.heap.size + 1 + 1, 0, none⟩) 3 3, .slice none 0 0, .slice none 0 0, .slice none 0 0, .slice none 0 0, .slice none 0 0, .slice a1 m1 c1, .string ⟨#[]⟩, .int .i64 0, .int .i64 0, .int .i64 0, .slice none 0 0, .string ⟨#[]⟩] 37 (0, 0)) := new_at3 rfl
  have HF : Hid ((((w1.alloc (.cells #[.int .i64 14, .slice (some ⟨w1.heap.size + 1 + 1, 0, none⟩) 3 3, .slice none 0 0, .slice none 0 0, .slice none 0 0, .slice none 0 0, .slice none 0 0, .slice a1 m1 c1, .string ⟨#[]⟩, .int .i64 0, .int .i64 0, .int .i64 0, .slice none 0 0, .string ⟨#[]⟩] 37)).alloc (.cells #[.int .i64 n1, .int .i64 n2, .int .i64 n3, .slice a1 m1 c1] 83)).alloc (.cells #[.int .i64 n1, .int .i64 n2, .int .i64 n3] 3)).heap[w1.heap.size]? = some (.cells #[.int .i64 14, .slice (some ⟨w1.heap.size + 1 + 1, 0, none⟩) 3 3, .slice none 0 0, .slice none 0 0, .slice none 0 0, .slice none 0 0, .slice none 0 0, .slice a1 m1 c1, .string ⟨#[]⟩, .int .i64 0, .int .i64 0, .int .i64 0, .slice none 0 0, .string ⟨#[]⟩] 37 (0, 0))) := Lib.hid (hf0)
  have HQ : Hid ((((w1.alloc (.cells #[.int .i64 14, .slice (some ⟨w1.heap.size + 1 + 1, 0, none⟩) 3 3, .slice none 0 0, .slice none 0 0, .slice none 0 0, .slice none 0 0, .slice none 0 0, .slice a1 m1 c1, .string ⟨#[]⟩, .int .i64 0, .int .i64 0, .int .i64 0, .slice none 0 0, .string ⟨#[]⟩] 37)).alloc (.cells #[.int .i64 n1, .int .i64 n2, .int .i64 n3, .slice a1 m1 c1] 83)).alloc (.cells #[.int .i64 n1, .int .i64 n2, .int .i64 n3] 3)).heap[w1.heap.size + 1 + 1]? = some (.cells (intsA [n1, n2, n3]) 3 (0, 0))) := Lib.hid (new_at (by simp))
  have HZZ : Hid ((((w1.alloc (.cells #[.int .i64 14, .slice (some ⟨w1.heap.size + 1 + 1, 0, none⟩) 3 3, .slice none 0 0, .slice none 0 0, .slice none 0 0, .slice none 0 0, .slice none 0 0, .slice a1 m1 c1, .string ⟨#[]⟩, .int .i64 0, .int .i64 0, .int .i64 0, .slice none 0 0, .string ⟨#[]⟩] 37)).alloc (.cells #[.int .i64 n1, .int .i64 n2, .int .i64 n3, .slice a1 m1 c1] 83)).alloc (.cells #[.int .i64 n1, .int .i64 n2, .int .i64 n3] 3)).heap[w.heap.size]? = some (.cells #[.int .i64 0, .slice none 0 0, .slice none 0 0, .slice none 0 0, .slice none 0 0, .slice none 0 0, .slice none 0 0, .slice none 0 0, .string ⟨#[]⟩, .int .i64 0, .int .i64 0, .int .i64 0, .slice none 0 0, .string ⟨#[]⟩] 37 (0, 0))) := Lib.hid (HZ3)
  have HBB : Hid (Below w.heap.size w (((w1.alloc (.cells #[.int .i64 14, .slice (some ⟨w1.heap.size + 1 + 1, 0, none⟩) 3 3, .slice none 0 0, .slice none 0 0, .slice none 0 0, .slice none 0 0, .slice none 0 0, .slice a1 m1 c1, .string ⟨#[]⟩, .int .i64 0, .int .i64 0, .int .i64 0, .slice none 0 0, .string ⟨#[]⟩] 37)).alloc (.cells #[.int .i64 n1, .int .i64 n2, .int .i64 n3, .slice a1 m1 c1] 83)).alloc (.cells #[.int .i64 n1, .int .i64 n2, .int .i64 n3] 3))) := Lib.hid (HB3)
  have hsz1 := hwb.size
  clear HZ3 HB3 hz1 hb1 hwb HZ0 HB0 hf0
  go_upto_region 57 with (fail)
  generalize (((w1.alloc (.cells #[.int .i64 14, .slice (some ⟨w1.heap.size + 1 + 1, 0, none⟩) 3 3, .slice none 0 0, .slice none 0 0, .slice none 0 0, .slice none 0 0, .slice none 0 0, .slice a1 m1 c1, .string ⟨#[]⟩, .int .i64 0, .int .i64 0, .int .i64 0, .slice none 0 0, .string ⟨#[]⟩] 37)).alloc (.cells #[.int .i64 n1, .int .i64 n2, .int .i64 n3, .slice a1 m1 c1] 83)).alloc (.cells #[.int .i64 n1, .int .i64 n2, .int .i64 n3] 3)) = W9 at HF HQ HZZ HBB ⊢
  refine wp_region_lit ?_
  refine wpList_load_row rfl 37 (.tmp 4) rfl w1.heap.size rfl 37 #[.int .i64 14, .slice (some ⟨w1.heap.size + 1 + 1, 0, none⟩) 3 3, .slice none 0 0, .slice none 0 0, .slice none 0 0, .slice none 0 0, .slice none 0 0, .slice a1 m1 c1, .string ⟨#[]⟩, .int .i64 0, .int .i64 0, .int .i64 0, .slice none 0 0, .string ⟨#[]⟩] (0, 0) _ HF.out Tryz.underlying37 rfl (by kernel_rfl) ?_
  refine wpList_store_row rfl 37 (.tmp 2) (.tmp 208) rfl w.heap.size #[.int .i64 14, .slice (some ⟨w1.heap.size + 1 + 1, 0, none⟩) 3 3, .slice none 0 0, .slice none 0 0, .slice none 0 0, .slice none 0 0, .slice none 0 0, .slice a1 m1 c1, .string ⟨#[]⟩, .int .i64 0, .int .i64 0, .int .i64 0, .slice none 0 0, .string ⟨#[]⟩] rfl rfl 37 #[.int .i64 0, .slice none 0 0, .slice none 0 0, .slice none 0 0, .slice none 0 0, .slice none 0 0, .slice none 0 0, .slice none 0 0, .string ⟨#[]⟩, .int .i64 0, .int .i64 0, .int .i64 0, .slice none 0 0, .string ⟨#[]⟩] HZZ.out (by kernel_rfl) rfl (by simp [Value.oneCell']) ?_
  obtain ⟨w9, HW9, HK, HB9, HQ9⟩ := row14 (cs := #[.int .i64 14, .slice (some ⟨w1.heap.size + 1 + 1, 0, none⟩) 3 3, .slice none 0 0, .slice none 0 0, .slice none 0 0, .slice none 0 0, .slice none 0 0, .slice a1 m1 c1, .string ⟨#[]⟩, .int .i64 0, .int .i64 0, .int .i64 0, .slice none 0 0, .string ⟨#[]⟩]) HZZ.out HBB.out HQ.out (by omega)
  rw [← HW9.out]
  clear HW9 HF HZZ HBB HQ
  have hld := run_loadVar_row (P := Tryz.prog) w9 w.heap.size 37 37 #[.int .i64 14, .slice (some ⟨w1.heap.size + 1 + 1, 0, none⟩) 3 3, .slice none 0 0, .slice none 0 0, .slice none 0 0, .slice none 0 0, .slice none 0 0, .slice a1 m1 c1, .string ⟨#[]⟩, .int .i64 0, .int .i64 0, .int .i64 0, .slice none 0 0, .string ⟨#[]⟩] (0, 0) _ HK.out Tryz.underlying37 rfl (by kernel_rfl)
  have HLD := Lib.hid hld
  clear hld
  go_wp2
  (try simp only [Exit.inBlock, Exit.then])
  refine bodyPost_ret (v := .tuple #[.agg #[.int .i64 14, .slice (some ⟨w1.heap.size + 1 + 1, 0, none⟩) 3 3, .slice none 0 0, .slice none 0 0, .slice none 0 0, .slice none 0 0, .slice none 0 0, .slice a1 m1 c1, .string ⟨#[]⟩, .int .i64 0, .int .i64 0, .int .i64 0, .slice none 0 0, .string ⟨#[]⟩], .bool true]) ?_ rfl ⟨_, rfl, HQ9.out, HB9.out, by omega⟩
  rw [results_cell_tmp rfl]
  simp [asAddr, Result.andThen, HLD.out]
/-- The numbers of a message, and its cells as the reference has them. -/
def MV.nums : MV → List Int
  | .beat_ n1 n2 n3 => [n1, n2, n3]
  | .join_ n1 n2 => [n1, n2]
  | .lease_ n1 n2 => [n1, n2]
  | .view_ n1 _ _ _ _ _ _ => [n1]
  | .where_ n1 => [n1]
  | .have_ n1 n2 n3 _ _ => [n1, n2, n3]
  | .logs_ n1 n2 n3 n4 n5 n6 _ _ => [n1, n2, n3, n4, n5, n6]
  | .ack_ n1 n2 n3 => [n1, n2, n3]
  | .ask_ n1 n2 n3 n4 => [n1, n2, n3, n4]
  | .told_ n1 n2 n3 n4 => [n1, n2, n3, n4]
  | .append_ n1 _ _ => [n1]
  | .read_ n1 n2 _ => [n1, n2]
  | .reply_ n1 n2 n3 n4 n5 n6 => [n1, n2, n3, n4, n5, n6]
  | .result_ n1 n2 n3 _ _ => [n1, n2, n3]
def MV.flat (q : Nat) : MV → Array Value
  | .beat_ _ _ _ => #[.int .i64 1, .slice (some ⟨q, 0, none⟩) 3 3, .slice none 0 0, .slice none 0 0, .slice none 0 0, .slice none 0 0, .slice none 0 0, .slice none 0 0, .string ⟨#[]⟩, .int .i64 0, .int .i64 0, .int .i64 0, .slice none 0 0, .string ⟨#[]⟩]
  | .join_ _ _ => #[.int .i64 2, .slice (some ⟨q, 0, none⟩) 2 2, .slice none 0 0, .slice none 0 0, .slice none 0 0, .slice none 0 0, .slice none 0 0, .slice none 0 0, .string ⟨#[]⟩, .int .i64 0, .int .i64 0, .int .i64 0, .slice none 0 0, .string ⟨#[]⟩]
  | .lease_ _ _ => #[.int .i64 3, .slice (some ⟨q, 0, none⟩) 2 2, .slice none 0 0, .slice none 0 0, .slice none 0 0, .slice none 0 0, .slice none 0 0, .slice none 0 0, .string ⟨#[]⟩, .int .i64 0, .int .i64 0, .int .i64 0, .slice none 0 0, .string ⟨#[]⟩]
  | .view_ _ _ v1 _ v2 _ v3 => #[.int .i64 4, .slice (some ⟨q, 0, none⟩) 1 1, v1, v2, v3, .slice none 0 0, .slice none 0 0, .slice none 0 0, .string ⟨#[]⟩, .int .i64 0, .int .i64 0, .int .i64 0, .slice none 0 0, .string ⟨#[]⟩]
  | .where_ _ => #[.int .i64 5, .slice (some ⟨q, 0, none⟩) 1 1, .slice none 0 0, .slice none 0 0, .slice none 0 0, .slice none 0 0, .slice none 0 0, .slice none 0 0, .string ⟨#[]⟩, .int .i64 0, .int .i64 0, .int .i64 0, .slice none 0 0, .string ⟨#[]⟩]
  | .have_ _ _ _ _ v1 => #[.int .i64 6, .slice (some ⟨q, 0, none⟩) 3 3, .slice none 0 0, .slice none 0 0, .slice none 0 0, v1, .slice none 0 0, .slice none 0 0, .string ⟨#[]⟩, .int .i64 0, .int .i64 0, .int .i64 0, .slice none 0 0, .string ⟨#[]⟩]
  | .logs_ _ _ _ _ _ _ _ v1 => #[.int .i64 7, .slice (some ⟨q, 0, none⟩) 6 6, .slice none 0 0, .slice none 0 0, .slice none 0 0, .slice none 0 0, v1, .slice none 0 0, .string ⟨#[]⟩, .int .i64 0, .int .i64 0, .int .i64 0, .slice none 0 0, .string ⟨#[]⟩]
  | .ack_ _ _ _ => #[.int .i64 8, .slice (some ⟨q, 0, none⟩) 3 3, .slice none 0 0, .slice none 0 0, .slice none 0 0, .slice none 0 0, .slice none 0 0, .slice none 0 0, .string ⟨#[]⟩, .int .i64 0, .int .i64 0, .int .i64 0, .slice none 0 0, .string ⟨#[]⟩]
  | .ask_ _ _ _ _ => #[.int .i64 9, .slice (some ⟨q, 0, none⟩) 4 4, .slice none 0 0, .slice none 0 0, .slice none 0 0, .slice none 0 0, .slice none 0 0, .slice none 0 0, .string ⟨#[]⟩, .int .i64 0, .int .i64 0, .int .i64 0, .slice none 0 0, .string ⟨#[]⟩]
  | .told_ _ _ _ _ => #[.int .i64 10, .slice (some ⟨q, 0, none⟩) 4 4, .slice none 0 0, .slice none 0 0, .slice none 0 0, .slice none 0 0, .slice none 0 0, .slice none 0 0, .string ⟨#[]⟩, .int .i64 0, .int .i64 0, .int .i64 0, .slice none 0 0, .string ⟨#[]⟩]
  | .append_ _ bt v1 => #[.int .i64 11, .slice (some ⟨q, 0, none⟩) 1 1, .slice none 0 0, .slice none 0 0, .slice none 0 0, .slice none 0 0, .slice none 0 0, .slice none 0 0, .string (B bt.stream), .int .i64 bt.expect, .int .i64 bt.session, .int .i64 bt.seq, v1, .string ⟨#[]⟩]
  | .read_ _ _ s => #[.int .i64 12, .slice (some ⟨q, 0, none⟩) 2 2, .slice none 0 0, .slice none 0 0, .slice none 0 0, .slice none 0 0, .slice none 0 0, .slice none 0 0, .string ⟨#[]⟩, .int .i64 0, .int .i64 0, .int .i64 0, .slice none 0 0, .string (B s)]
  | .reply_ _ _ _ _ _ _ => #[.int .i64 13, .slice (some ⟨q, 0, none⟩) 6 6, .slice none 0 0, .slice none 0 0, .slice none 0 0, .slice none 0 0, .slice none 0 0, .slice none 0 0, .string ⟨#[]⟩, .int .i64 0, .int .i64 0, .int .i64 0, .slice none 0 0, .string ⟨#[]⟩]
  | .result_ _ _ _ _ v1 => #[.int .i64 14, .slice (some ⟨q, 0, none⟩) 3 3, .slice none 0 0, .slice none 0 0, .slice none 0 0, .slice none 0 0, .slice none 0 0, v1, .string ⟨#[]⟩, .int .i64 0, .int .i64 0, .int .i64 0, .slice none 0 0, .string ⟨#[]⟩]
theorem flat_at (m : MV) (w w0 : World) (hr : m.Reads w0) : Calls Tryz.prog 7 #[m.val] w fun x w' => ∃ q, x = .returned (.tuple #[.agg (m.flat q), .bool true]) ∧ w'.heap[q]? = some (.cells (intsA m.nums) 3 (0, 0)) ∧ Below w.heap.size w w' ∧ w.heap.size ≤ q := by
  cases m with
  | beat_ n1 n2 n3 => exact flat_beat n1 n2 n3 w
  | join_ n1 n2 => exact flat_join n1 n2 w
  | lease_ n1 n2 => exact flat_lease n1 n2 w
  | view_ n1 l1 v1 l2 v2 l3 v3 => exact flat_view n1 v1 v2 v3 w (formI hr.1) (formI hr.2.1) (formI hr.2.2)
  | where_ n1 => exact flat_where n1 w
  | have_ n1 n2 n3 l1 v1 => exact flat_have n1 n2 n3 v1 w (formM hr)
  | logs_ n1 n2 n3 n4 n5 n6 l1 v1 => exact flat_logs n1 n2 n3 n4 n5 n6 v1 w (formR hr.1)
  | ack_ n1 n2 n3 => exact flat_ack n1 n2 n3 w
  | ask_ n1 n2 n3 n4 => exact flat_ask n1 n2 n3 n4 w
  | told_ n1 n2 n3 n4 => exact flat_told n1 n2 n3 n4 w
  | append_ n1 bt v1 => exact flat_append n1 bt v1 w (readsE_form hr.1)
  | read_ n1 n2 s => exact flat_read n1 n2 s w
  | reply_ n1 n2 n3 n4 n5 n6 => exact flat_reply n1 n2 n3 n4 n5 n6 w
  | result_ n1 n2 n3 l1 v1 => exact flat_result n1 n2 n3 v1 w (readsE_form hr.1)
end Go.Proofs.YtljcgpdjhjkciaaGreat
