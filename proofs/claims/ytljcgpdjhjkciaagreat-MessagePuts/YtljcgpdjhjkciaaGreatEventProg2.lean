/-
  Walks of package event: Put, Same.
-/
import Derived.Test.YtljcgpdjhjkciaaGreatEventProg
import Derived.Test.YtljcgpdjhjkciaaGreatBuilderShelf
namespace Go.Proofs.YtljcgpdjhjkciaaGreat
open Go.RowKit
attribute [local go_sem] ext_Bd ext_Bl ext_Bt toList_B add_B size_B get_Bt

theorem cat_run {a c : List UInt8} (h : a.length + c.length ≤ 1000000) (w' : World) : (Op.stringOp .add (B a) (B c)).run Tryz.prog w' = .ok (.string (B (a ++ c))) w' := by
  rw [run_string_add_sum w' (B a) (B c) (by rw [size_B, size_B]; omega), add_B]
theorem PutText_at (l r : List UInt8) (w : World) (h : l.length ≤ 1000000) (H : Hid (N.putT l = r)) :
    Calls Tryz.prog 66 #[.string (B l)] w fun e w' => e = .returned (.string (B r)) ∧ Below w.heap.size w w' := by
  rw [← H.out]; exact PutText_l l w h

set_option maxHeartbeats 2000000 in
set_option maxRecDepth 100000 in
theorem EPut_at (e : E.Ev) (s : List UInt8) (w : World) (h1 : e.1.length ≤ 9223372036854775807) (h2 : e.2.length ≤ 9223372036854775807) (H : Hid (E.putEv e = s)) :
    Calls Tryz.prog 68 #[evV e] w fun x w' => x = .returned (.string (B s)) ∧ Below w.heap.size w w' := by
  obtain ⟨k, d⟩ := e
  dsimp only at h1 h2
  cases hr : E.right (k, d)
  · have HE := Lib.hid (show s = [] by rw [← H.out]; exact E.putEv_bad hr)
    have HQ := Lib.hid hr; clear hr
    go_enter Tryz.func68, Tryz.ntmps68
    go_wp2_with fail
    refine (Right_at (k, d) false _ (by omega) (by omega) HQ).mono ?_
    rintro x w1 ⟨rfl, hb1⟩
    have hb := below_box hb1
    clear hb1
    go_wp2
    go_ret
    rw [HE.out]
    exact ⟨rfl, hb⟩
  · obtain ⟨a, HA⟩ : ∃ a, Hid (N.putT k = a) := ⟨_, Lib.hid rfl⟩
    obtain ⟨c, HC⟩ : ∃ c, Hid (N.putT d = c) := ⟨_, Lib.hid rfl⟩
    have hbd := E.right_bd hr
    dsimp only at hbd
    have hal : a.length ≤ 100006 := by have := N.putT_len (l := k) (by omega); rw [HA.out] at this; omega
    have hcl : c.length ≤ 100006 := by have := N.putT_len (l := d) (by omega); rw [HC.out] at this; omega
    have HE := Lib.hid (show s = a ++ c by rw [← H.out, E.putEv_ok hr]; unfold E.putE; rw [HA.out, HC.out])
    have HQ := Lib.hid hr; clear hr H
    have hk6 : k.length ≤ 1000000 := by omega
    have hd6 : d.length ≤ 1000000 := by omega
    clear hbd
    have hcat : ∀ w' : World, (Op.stringOp .add (B a) (B c)).run Tryz.prog w' = .ok (.string (B (a ++ c))) w' := fun w' => by
      rw [run_string_add_sum w' (B a) (B c) (by rw [size_B, size_B]; omega), add_B]
    go_enter Tryz.func68, Tryz.ntmps68
    go_wp2_with fail
    refine (Right_at (k, d) true _ (by omega) (by omega) HQ).mono ?_
    rintro x w1 ⟨rfl, hb1⟩
    have c0 := box_at hb1 0
    have c1 := box_at hb1 1
    simp at c0 c1
    have hS : BoxB w w.heap.size (.string (B k)) (.string (B d)) w1 := ⟨c0, c1, below_box hb1⟩
    clear hb1 c0 c1
    go_wp2
    unfold BoxB at hS
    go_region_held3 (fun w' => w'.cell? ⟨w.heap.size, 0, none⟩ = some (.string (B k)) ∧ w'.cell? ⟨w.heap.size, 1, none⟩ = some (.string (B d)) ∧ KeptB w w')
      (first | assumption | exact boxB_drew (by assumption) | exact boxB_call (by assumption) (by assumption))
      (first
        | (go_at_call 66; with_reducible refine (PutText_at k a _ hk6 HA).mono ?_; rintro x w4 ⟨rfl, hb4⟩)
        | (go_at_call 66; with_reducible refine (PutText_at d c _ hd6 HC).mono ?_; rintro x w5 ⟨rfl, hb5⟩))
    rename_i hHeld
    have HB := Lib.hid hHeld.2.2
    clear hHeld
    go_wp2
    go_ret
    rw [HE.out]
    exact ⟨rfl, HB.out⟩


theorem two_below (w : World) (o1 o2 : Obj) : Below w.heap.size w ((w.alloc o1).alloc o2) := ((Below.refl _ w).alloc (Nat.le_refl _) o1).alloc (by simp) o2
end Go.Proofs.YtljcgpdjhjkciaaGreat
