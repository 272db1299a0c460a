/-
  Proved: for every choice of parts the law MessagePuts of package bucketlinelaw7 returns true, and its argument reads as before: whether a message is right, its bytes, its epoch and its kind are as the document says. No condition.
-/
import Derived.Test.YtljcgpdjhjkciaaGreatMsgMore
import Derived.Test.YtljcgpdjhjkciaaGreatMsgBig
import Derived.Laws.Rows
import Derived.Deep.DeepCutAuto
import Derived.Deep.RegionHeld3
import Derived.ProofKit
import Derived.OpenShut
import Derived.ShutString
import Derived.Test.YtljcgpdjhjkciaaGreatMsgRef2
namespace Go.Proofs.YtljcgpdjhjkciaaGreat
open Go.RowKit
attribute [local go_sem] ext_Bd ext_Bl ext_Bt toList_B add_B size_B get_Bt

def epI (kind : Int) (ns : List Int) : Int := if kind = 1 then ns.getD 1 0 else if kind = 3 ∨ kind = 4 ∨ kind = 6 ∨ kind = 7 ∨ kind = 8 ∨ kind = 9 ∨ kind = 10 then ns.getD 0 0 else 0

set_option maxHeartbeats 4000000 in
set_option maxRecDepth 100000 in
theorem refEpoch7_bad (f : Fl) (w : World) (hr : f.Reads w) (HF : Hid (f.right = false)) :
    Calls Tryz.prog 13 #[f.val] w fun x w' => x = .returned (.int .i64 0) ∧ Below w.heap.size w w' := by
  have HRD := Lib.hid hr
  obtain ⟨kind, ns, ch, si, bo, ma, en, ev, ⟨bst, bex, bse, bsq, bev⟩, st, vn, vc, vs, vb, vm, ve, vv, vt⟩ := f
  obtain ⟨⟨an, cn, e1, hxn⟩, ⟨ac, cc, e2, -⟩, ⟨ai, ci, e3, -⟩, ⟨ab, cb, e4, -⟩, ⟨am, cm, e5, -⟩, ⟨ae, ce, e6, -⟩, ⟨av, cv, e7, -⟩, ⟨at_, ct, e8, -⟩, -⟩ := hr
  dsimp only at e1 e2 e3 e4 e5 e6 e7 e8 hxn
  subst e1 e2 e3 e4 e5 e6 e7 e8
  have HXn := Lib.hid hxn
  clear hxn
  go_enter Tryz.func13, Tryz.ntmps13
  go_wp2_with fail
  refine (refRight7_at ⟨kind, ns, ch, si, bo, ma, en, ev, ⟨bst, bex, bse, bsq, bev⟩, st, .slice an ns.length cn, .slice ac ch.length cc, .slice ai si.length ci, .slice ab bo.length cb, .slice am ma.length cm, .slice ae en.length ce, .slice av ev.length cv, .slice at_ bev.length ct⟩ false _ (HRD.out.below ((Below.refl _ w).alloc (Nat.le_refl _) _)) HF).mono ?_
  rintro x W1 ⟨rfl, hb1⟩
  have HB := Lib.hid (below_box hb1)
  clear hb1
  go_wp2
  go_ret
  exact ⟨rfl, HB.out⟩
set_option maxHeartbeats 16000000 in
set_option maxRecDepth 100000 in
theorem refEpoch7_ok (f : Fl) (w : World) (hr : f.Reads w) (HF : Hid (f.right = true)) (hcn : cntN (shapeT f.kind) ≤ f.ns.length) :
    Calls Tryz.prog 13 #[f.val] w fun x w' => x = .returned (.int .i64 (epI f.kind f.ns)) ∧ Below w.heap.size w w' := by
  have hk : 1 ≤ f.kind ∧ f.kind < 15 := by
    have := List.all_eq_true.1 HF.out (decide (1 ≤ f.kind ∧ f.kind < 15)) (by simp [tests])
    exact of_decide_eq_true this
  have HRD := Lib.hid hr
  obtain ⟨kind, ns, ch, si, bo, ma, en, ev, ⟨bst, bex, bse, bsq, bev⟩, st, vn, vc, vs, vb, vm, ve, vv, vt⟩ := f
  obtain ⟨⟨an, cn, e1, hxn⟩, ⟨ac, cc, e2, -⟩, ⟨ai, ci, e3, -⟩, ⟨ab, cb, e4, -⟩, ⟨am, cm, e5, -⟩, ⟨ae, ce, e6, -⟩, ⟨av, cv, e7, -⟩, ⟨at_, ct, e8, -⟩, -⟩ := hr
  dsimp only at e1 e2 e3 e4 e5 e6 e7 e8 hxn
  subst e1 e2 e3 e4 e5 e6 e7 e8
  have HXn := Lib.hid hxn
  clear hxn
  dsimp only at hk hcn ⊢
  have hcase := kind_cases hk.1 hk.2
  clear hk
  rcases hcase with rfl | rfl | rfl | rfl | rfl | rfl | rfl | rfl | rfl | rfl | rfl | rfl | rfl | rfl
  · have hl : 1 < ns.length := by
      have h3 : cntN (shapeT 1) = 3 := by decide
      omega
    obtain ⟨b1, o1, rfl, g⟩ := HXn.out 1 hl
    have HE : Hid (epI 1 ns = ns[1]) := Lib.hid (by
      have h2 : ns.getD 1 0 = ns[1] := by rw [List.getD_eq_getElem?_getD, List.getElem?_eq_getElem hl]; rfl
      rw [← h2]; rfl)
    generalize ns[1] = zz at g HE
    have hl1 : (1 : Int) < (ns.length : Int) := by omega
    go_enter Tryz.func13, Tryz.ntmps13
    go_wp2_with fail
    refine (refRight7_at ⟨1, ns, ch, si, bo, ma, en, ev, ⟨bst, bex, bse, bsq, bev⟩, st, .slice (some ⟨b1, o1, none⟩) ns.length cn, .slice ac ch.length cc, .slice ai si.length ci, .slice ab bo.length cb, .slice am ma.length cm, .slice ae en.length ce, .slice av ev.length cv, .slice at_ bev.length ct⟩ true _ (HRD.out.below ((Below.refl _ w).alloc (Nat.le_refl _) _)) HF).mono ?_
    rintro x W ⟨rfl, hb1⟩
    have c0 : W.cell? ⟨w.heap.size, 0, none⟩ = some (.int .i64 1) := (box_at hb1 0).trans rfl
    have HB := Lib.hid (below_box hb1)
    have c1 : W.cell? ⟨w.heap.size, 1, none⟩ = some (.slice (some ⟨b1, o1, none⟩) ns.length cn) := (box_at hb1 1).trans rfl
    have z1 : W.cell? ⟨b1, o1 + 1, none⟩ = some (.int .i64 zz) := below_keeps HB.out _ _ g
    clear hb1 g
    go_wp2
    go_ret
    rw [HE.out]
    exact ⟨rfl, HB.out⟩
  · go_enter Tryz.func13, Tryz.ntmps13
    go_wp2_with fail
    refine (refRight7_at ⟨2, ns, ch, si, bo, ma, en, ev, ⟨bst, bex, bse, bsq, bev⟩, st, .slice an ns.length cn, .slice ac ch.length cc, .slice ai si.length ci, .slice ab bo.length cb, .slice am ma.length cm, .slice ae en.length ce, .slice av ev.length cv, .slice at_ bev.length ct⟩ true _ (HRD.out.below ((Below.refl _ w).alloc (Nat.le_refl _) _)) HF).mono ?_
    rintro x W ⟨rfl, hb1⟩
    have c0 : W.cell? ⟨w.heap.size, 0, none⟩ = some (.int .i64 2) := (box_at hb1 0).trans rfl
    have HB := Lib.hid (below_box hb1)
    clear hb1
    go_wp2
    go_ret
    exact ⟨rfl, HB.out⟩
  · have hl : 0 < ns.length := by
      have h3 : cntN (shapeT 3) = 2 := by decide
      omega
    obtain ⟨b1, o1, rfl, g⟩ := HXn.out 0 hl
    have HE : Hid (epI 3 ns = ns[0]) := Lib.hid (by
      have h2 : ns.getD 0 0 = ns[0] := by rw [List.getD_eq_getElem?_getD, List.getElem?_eq_getElem hl]; rfl
      rw [← h2]; rfl)
    generalize ns[0] = zz at g HE
    have hl1 : (0 : Int) < (ns.length : Int) := by omega
    go_enter Tryz.func13, Tryz.ntmps13
    go_wp2_with fail
    refine (refRight7_at ⟨3, ns, ch, si, bo, ma, en, ev, ⟨bst, bex, bse, bsq, bev⟩, st, .slice (some ⟨b1, o1, none⟩) ns.length cn, .slice ac ch.length cc, .slice ai si.length ci, .slice ab bo.length cb, .slice am ma.length cm, .slice ae en.length ce, .slice av ev.length cv, .slice at_ bev.length ct⟩ true _ (HRD.out.below ((Below.refl _ w).alloc (Nat.le_refl _) _)) HF).mono ?_
    rintro x W ⟨rfl, hb1⟩
    have c0 : W.cell? ⟨w.heap.size, 0, none⟩ = some (.int .i64 3) := (box_at hb1 0).trans rfl
    have HB := Lib.hid (below_box hb1)
    have c1 : W.cell? ⟨w.heap.size, 1, none⟩ = some (.slice (some ⟨b1, o1, none⟩) ns.length cn) := (box_at hb1 1).trans rfl
    have z1 : W.cell? ⟨b1, o1 + 0, none⟩ = some (.int .i64 zz) := below_keeps HB.out _ _ g
    have z2 : W.cell? ⟨b1, o1, none⟩ = some (.int .i64 zz) := z1
    clear hb1 g
    go_wp2
    go_ret
    rw [HE.out]
    exact ⟨rfl, HB.out⟩
  · have hl : 0 < ns.length := by
      have h3 : cntN (shapeT 4) = 1 := by decide
      omega
    obtain ⟨b1, o1, rfl, g⟩ := HXn.out 0 hl
    have HE : Hid (epI 4 ns = ns[0]) := Lib.hid (by
      have h2 : ns.getD 0 0 = ns[0] := by rw [List.getD_eq_getElem?_getD, List.getElem?_eq_getElem hl]; rfl
      rw [← h2]; rfl)
    generalize ns[0] = zz at g HE
    have hl1 : (0 : Int) < (ns.length : Int) := by omega
    go_enter Tryz.func13, Tryz.ntmps13
    go_wp2_with fail
    refine (refRight7_at ⟨4, ns, ch, si, bo, ma, en, ev, ⟨bst, bex, bse, bsq, bev⟩, st, .slice (some ⟨b1, o1, none⟩) ns.length cn, .slice ac ch.length cc, .slice ai si.length ci, .slice ab bo.length cb, .slice am ma.length cm, .slice ae en.length ce, .slice av ev.length cv, .slice at_ bev.length ct⟩ true _ (HRD.out.below ((Below.refl _ w).alloc (Nat.le_refl _) _)) HF).mono ?_
    rintro x W ⟨rfl, hb1⟩
    have c0 : W.cell? ⟨w.heap.size, 0, none⟩ = some (.int .i64 4) := (box_at hb1 0).trans rfl
    have HB := Lib.hid (below_box hb1)
    have c1 : W.cell? ⟨w.heap.size, 1, none⟩ = some (.slice (some ⟨b1, o1, none⟩) ns.length cn) := (box_at hb1 1).trans rfl
    have z1 : W.cell? ⟨b1, o1 + 0, none⟩ = some (.int .i64 zz) := below_keeps HB.out _ _ g
    have z2 : W.cell? ⟨b1, o1, none⟩ = some (.int .i64 zz) := z1
    clear hb1 g
    go_wp2
    go_ret
    rw [HE.out]
    exact ⟨rfl, HB.out⟩
  · go_enter Tryz.func13, Tryz.ntmps13
    go_wp2_with fail
    refine (refRight7_at ⟨5, ns, ch, si, bo, ma, en, ev, ⟨bst, bex, bse, bsq, bev⟩, st, .slice an ns.length cn, .slice ac ch.length cc, .slice ai si.length ci, .slice ab bo.length cb, .slice am ma.length cm, .slice ae en.length ce, .slice av ev.length cv, .slice at_ bev.length ct⟩ true _ (HRD.out.below ((Below.refl _ w).alloc (Nat.le_refl _) _)) HF).mono ?_
    rintro x W ⟨rfl, hb1⟩
    have c0 : W.cell? ⟨w.heap.size, 0, none⟩ = some (.int .i64 5) := (box_at hb1 0).trans rfl
    have HB := Lib.hid (below_box hb1)
    clear hb1
    go_wp2
    go_ret
    exact ⟨rfl, HB.out⟩
  · have hl : 0 < ns.length := by
      have h3 : cntN (shapeT 6) = 3 := by decide
      omega
    obtain ⟨b1, o1, rfl, g⟩ := HXn.out 0 hl
    have HE : Hid (epI 6 ns = ns[0]) := Lib.hid (by
      have h2 : ns.getD 0 0 = ns[0] := by rw [List.getD_eq_getElem?_getD, List.getElem?_eq_getElem hl]; rfl
      rw [← h2]; rfl)
    generalize ns[0] = zz at g HE
    have hl1 : (0 : Int) < (ns.length : Int) := by omega
    go_enter Tryz.func13, Tryz.ntmps13
    go_wp2_with fail
    refine (refRight7_at ⟨6, ns, ch, si, bo, ma, en, ev, ⟨bst, bex, bse, bsq, bev⟩, st, .slice (some ⟨b1, o1, none⟩) ns.length cn, .slice ac ch.length cc, .slice ai si.length ci, .slice ab bo.length cb, .slice am ma.length cm, .slice ae en.length ce, .slice av ev.length cv, .slice at_ bev.length ct⟩ true _ (HRD.out.below ((Below.refl _ w).alloc (Nat.le_refl _) _)) HF).mono ?_
    rintro x W ⟨rfl, hb1⟩
    have c0 : W.cell? ⟨w.heap.size, 0, none⟩ = some (.int .i64 6) := (box_at hb1 0).trans rfl
    have HB := Lib.hid (below_box hb1)
    have c1 : W.cell? ⟨w.heap.size, 1, none⟩ = some (.slice (some ⟨b1, o1, none⟩) ns.length cn) := (box_at hb1 1).trans rfl
    have z1 : W.cell? ⟨b1, o1 + 0, none⟩ = some (.int .i64 zz) := below_keeps HB.out _ _ g
    have z2 : W.cell? ⟨b1, o1, none⟩ = some (.int .i64 zz) := z1
    clear hb1 g
    go_wp2
    go_ret
    rw [HE.out]
    exact ⟨rfl, HB.out⟩
  · have hl : 0 < ns.length := by
      have h3 : cntN (shapeT 7) = 6 := by decide
      omega
    obtain ⟨b1, o1, rfl, g⟩ := HXn.out 0 hl
    have HE : Hid (epI 7 ns = ns[0]) := Lib.hid (by
      have h2 : ns.getD 0 0 = ns[0] := by rw [List.getD_eq_getElem?_getD, List.getElem?_eq_getElem hl]; rfl
      rw [← h2]; rfl)
    generalize ns[0] = zz at g HE
    have hl1 : (0 : Int) < (ns.length : Int) := by omega
    go_enter Tryz.func13, Tryz.ntmps13
    go_wp2_with fail
    refine (refRight7_at ⟨7, ns, ch, si, bo, ma, en, ev, ⟨bst, bex, bse, bsq, bev⟩, st, .slice (some ⟨b1, o1, none⟩) ns.length cn, .slice ac ch.length cc, .slice ai si.length ci, .slice ab bo.length cb, .slice am ma.length cm, .slice ae en.length ce, .slice av ev.length cv, .slice at_ bev.length ct⟩ true _ (HRD.out.below ((Below.refl _ w).alloc (Nat.le_refl _) _)) HF).mono ?_
    rintro x W ⟨rfl, hb1⟩
    have c0 : W.cell? ⟨w.heap.size, 0, none⟩ = some (.int .i64 7) := (box_at hb1 0).trans rfl
    have HB := Lib.hid (below_box hb1)
    have c1 : W.cell? ⟨w.heap.size, 1, none⟩ = some (.slice (some ⟨b1, o1, none⟩) ns.length cn) := (box_at hb1 1).trans rfl
    have z1 : W.cell? ⟨b1, o1 + 0, none⟩ = some (.int .i64 zz) := below_keeps HB.out _ _ g
    have z2 : W.cell? ⟨b1, o1, none⟩ = some (.int .i64 zz) := z1
    clear hb1 g
    go_wp2
    go_ret
    rw [HE.out]
    exact ⟨rfl, HB.out⟩
  · have hl : 0 < ns.length := by
      have h3 : cntN (shapeT 8) = 3 := by decide
      omega
    obtain ⟨b1, o1, rfl, g⟩ := HXn.out 0 hl
    have HE : Hid (epI 8 ns = ns[0]) := Lib.hid (by
      have h2 : ns.getD 0 0 = ns[0] := by rw [List.getD_eq_getElem?_getD, List.getElem?_eq_getElem hl]; rfl
      rw [← h2]; rfl)
    generalize ns[0] = zz at g HE
    have hl1 : (0 : Int) < (ns.length : Int) := by omega
    go_enter Tryz.func13, Tryz.ntmps13
    go_wp2_with fail
    refine (refRight7_at ⟨8, ns, ch, si, bo, ma, en, ev, ⟨bst, bex, bse, bsq, bev⟩, st, .slice (some ⟨b1, o1, none⟩) ns.length cn, .slice ac ch.length cc, .slice ai si.length ci, .slice ab bo.length cb, .slice am ma.length cm, .slice ae en.length ce, .slice av ev.length cv, .slice at_ bev.length ct⟩ true _ (HRD.out.below ((Below.refl _ w).alloc (Nat.le_refl _) _)) HF).mono ?_
    rintro x W ⟨rfl, hb1⟩
    have c0 : W.cell? ⟨w.heap.size, 0, none⟩ = some (.int .i64 8) := (box_at hb1 0).trans rfl
    have HB := Lib.hid (below_box hb1)
    have c1 : W.cell? ⟨w.heap.size, 1, none⟩ = some (.slice (some ⟨b1, o1, none⟩) ns.length cn) := (box_at hb1 1).trans rfl
    have z1 : W.cell? ⟨b1, o1 + 0, none⟩ = some (.int .i64 zz) := below_keeps HB.out _ _ g
    have z2 : W.cell? ⟨b1, o1, none⟩ = some (.int .i64 zz) := z1
    clear hb1 g
    go_wp2
    go_ret
    rw [HE.out]
    exact ⟨rfl, HB.out⟩
  · have hl : 0 < ns.length := by
      have h3 : cntN (shapeT 9) = 4 := by decide
      omega
    obtain ⟨b1, o1, rfl, g⟩ := HXn.out 0 hl
    have HE : Hid (epI 9 ns = ns[0]) := Lib.hid (by
      have h2 : ns.getD 0 0 = ns[0] := by rw [List.getD_eq_getElem?_getD, List.getElem?_eq_getElem hl]; rfl
      rw [← h2]; rfl)
    generalize ns[0] = zz at g HE
    have hl1 : (0 : Int) < (ns.length : Int) := by omega
    go_enter Tryz.func13, Tryz.ntmps13
    go_wp2_with fail
    refine (refRight7_at ⟨9, ns, ch, si, bo, ma, en, ev, ⟨bst, bex, bse, bsq, bev⟩, st, .slice (some ⟨b1, o1, none⟩) ns.length cn, .slice ac ch.length cc, .slice ai si.length ci, .slice ab bo.length cb, .slice am ma.length cm, .slice ae en.length ce, .slice av ev.length cv, .slice at_ bev.length ct⟩ true _ (HRD.out.below ((Below.refl _ w).alloc (Nat.le_refl _) _)) HF).mono ?_
    rintro x W ⟨rfl, hb1⟩
    have c0 : W.cell? ⟨w.heap.size, 0, none⟩ = some (.int .i64 9) := (box_at hb1 0).trans rfl
    have HB := Lib.hid (below_box hb1)
    have c1 : W.cell? ⟨w.heap.size, 1, none⟩ = some (.slice (some ⟨b1, o1, none⟩) ns.length cn) := (box_at hb1 1).trans rfl
    have z1 : W.cell? ⟨b1, o1 + 0, none⟩ = some (.int .i64 zz) := below_keeps HB.out _ _ g
    have z2 : W.cell? ⟨b1, o1, none⟩ = some (.int .i64 zz) := z1
    clear hb1 g
    go_wp2
    go_ret
    rw [HE.out]
    exact ⟨rfl, HB.out⟩
  · have hl : 0 < ns.length := by
      have h3 : cntN (shapeT 10) = 4 := by decide
      omega
    obtain ⟨b1, o1, rfl, g⟩ := HXn.out 0 hl
    have HE : Hid (epI 10 ns = ns[0]) := Lib.hid (by
      have h2 : ns.getD 0 0 = ns[0] := by rw [List.getD_eq_getElem?_getD, List.getElem?_eq_getElem hl]; rfl
      rw [← h2]; rfl)
    generalize ns[0] = zz at g HE
    have hl1 : (0 : Int) < (ns.length : Int) := by omega
    go_enter Tryz.func13, Tryz.ntmps13
    go_wp2_with fail
    refine (refRight7_at ⟨10, ns, ch, si, bo, ma, en, ev, ⟨bst, bex, bse, bsq, bev⟩, st, .slice (some ⟨b1, o1, none⟩) ns.length cn, .slice ac ch.length cc, .slice ai si.length ci, .slice ab bo.length cb, .slice am ma.length cm, .slice ae en.length ce, .slice av ev.length cv, .slice at_ bev.length ct⟩ true _ (HRD.out.below ((Below.refl _ w).alloc (Nat.le_refl _) _)) HF).mono ?_
    rintro x W ⟨rfl, hb1⟩
    have c0 : W.cell? ⟨w.heap.size, 0, none⟩ = some (.int .i64 10) := (box_at hb1 0).trans rfl
    have HB := Lib.hid (below_box hb1)
    have c1 : W.cell? ⟨w.heap.size, 1, none⟩ = some (.slice (some ⟨b1, o1, none⟩) ns.length cn) := (box_at hb1 1).trans rfl
    have z1 : W.cell? ⟨b1, o1 + 0, none⟩ = some (.int .i64 zz) := below_keeps HB.out _ _ g
    have z2 : W.cell? ⟨b1, o1, none⟩ = some (.int .i64 zz) := z1
    clear hb1 g
    go_wp2
    go_ret
    rw [HE.out]
    exact ⟨rfl, HB.out⟩
  · go_enter Tryz.func13, Tryz.ntmps13
    go_wp2_with fail
    refine (refRight7_at ⟨11, ns, ch, si, bo, ma, en, ev, ⟨bst, bex, bse, bsq, bev⟩, st, .slice an ns.length cn, .slice ac ch.length cc, .slice ai si.length ci, .slice ab bo.length cb, .slice am ma.length cm, .slice ae en.length ce, .slice av ev.length cv, .slice at_ bev.length ct⟩ true _ (HRD.out.below ((Below.refl _ w).alloc (Nat.le_refl _) _)) HF).mono ?_
    rintro x W ⟨rfl, hb1⟩
    have c0 : W.cell? ⟨w.heap.size, 0, none⟩ = some (.int .i64 11) := (box_at hb1 0).trans rfl
    have HB := Lib.hid (below_box hb1)
    clear hb1
    go_wp2
    go_ret
    exact ⟨rfl, HB.out⟩
  · go_enter Tryz.func13, Tryz.ntmps13
    go_wp2_with fail
    refine (refRight7_at ⟨12, ns, ch, si, bo, ma, en, ev, ⟨bst, bex, bse, bsq, bev⟩, st, .slice an ns.length cn, .slice ac ch.length cc, .slice ai si.length ci, .slice ab bo.length cb, .slice am ma.length cm, .slice ae en.length ce, .slice av ev.length cv, .slice at_ bev.length ct⟩ true _ (HRD.out.below ((Below.refl _ w).alloc (Nat.le_refl _) _)) HF).mono ?_
    rintro x W ⟨rfl, hb1⟩
    have c0 : W.cell? ⟨w.heap.size, 0, none⟩ = some (.int .i64 12) := (box_at hb1 0).trans rfl
    have HB := Lib.hid (below_box hb1)
    clear hb1
    go_wp2
    go_ret
    exact ⟨rfl, HB.out⟩
  · go_enter Tryz.func13, Tryz.ntmps13
    go_wp2_with fail
    refine (refRight7_at ⟨13, ns, ch, si, bo, ma, en, ev, ⟨bst, bex, bse, bsq, bev⟩, st, .slice an ns.length cn, .slice ac ch.length cc, .slice ai si.length ci, .slice ab bo.length cb, .slice am ma.length cm, .slice ae en.length ce, .slice av ev.length cv, .slice at_ bev.length ct⟩ true _ (HRD.out.below ((Below.refl _ w).alloc (Nat.le_refl _) _)) HF).mono ?_
    rintro x W ⟨rfl, hb1⟩
    have c0 : W.cell? ⟨w.heap.size, 0, none⟩ = some (.int .i64 13) := (box_at hb1 0).trans rfl
    have HB := Lib.hid (below_box hb1)
    clear hb1
    go_wp2
    go_ret
    exact ⟨rfl, HB.out⟩
  · go_enter Tryz.func13, Tryz.ntmps13
    go_wp2_with fail
    refine (refRight7_at ⟨14, ns, ch, si, bo, ma, en, ev, ⟨bst, bex, bse, bsq, bev⟩, st, .slice an ns.length cn, .slice ac ch.length cc, .slice ai si.length ci, .slice ab bo.length cb, .slice am ma.length cm, .slice ae en.length ce, .slice av ev.length cv, .slice at_ bev.length ct⟩ true _ (HRD.out.below ((Below.refl _ w).alloc (Nat.le_refl _) _)) HF).mono ?_
    rintro x W ⟨rfl, hb1⟩
    have c0 : W.cell? ⟨w.heap.size, 0, none⟩ = some (.int .i64 14) := (box_at hb1 0).trans rfl
    have HB := Lib.hid (below_box hb1)
    clear hb1
    go_wp2
    go_ret
    exact ⟨rfl, HB.out⟩
theorem refEpoch7_at (f : Fl) (z : Int) (w : World) (hr : f.Reads w) (hcn : cntN (shapeT f.kind) ≤ f.ns.length) (H : Hid ((if f.right = true then epI f.kind f.ns else 0) = z)) :
    Calls Tryz.prog 13 #[f.val] w fun x w' => x = .returned (.int .i64 z) ∧ Below w.heap.size w w' := by
  rw [← H.out]
  cases hq : f.right
  · rw [if_neg (by decide)]; exact refEpoch7_bad f w hr (Lib.hid hq)
  · rw [if_pos rfl]; exact refEpoch7_ok f w hr (Lib.hid hq) hcn
/-- A message as the document's answer has it, its numbers in block q. -/
def MV.fl (q : Nat) : MV → Fl
  | .beat_ n1 n2 n3 => ⟨1, [n1, n2, n3], [], [], [], [], [], [], ⟨[], 0, 0, 0, []⟩, [], .slice (some ⟨q, 0, none⟩) 3 3, .slice none 0 0, .slice none 0 0, .slice none 0 0, .slice none 0 0, .slice none 0 0, .slice none 0 0, .slice none 0 0⟩
  | .join_ n1 n2 => ⟨2, [n1, n2], [], [], [], [], [], [], ⟨[], 0, 0, 0, []⟩, [], .slice (some ⟨q, 0, none⟩) 2 2, .slice none 0 0, .slice none 0 0, .slice none 0 0, .slice none 0 0, .slice none 0 0, .slice none 0 0, .slice none 0 0⟩
  | .lease_ n1 n2 => ⟨3, [n1, n2], [], [], [], [], [], [], ⟨[], 0, 0, 0, []⟩, [], .slice (some ⟨q, 0, none⟩) 2 2, .slice none 0 0, .slice none 0 0, .slice none 0 0, .slice none 0 0, .slice none 0 0, .slice none 0 0, .slice none 0 0⟩
  | .view_ n1 l1 v1 l2 v2 l3 v3 => ⟨4, [n1], l1, l2, l3, [], [], [], ⟨[], 0, 0, 0, []⟩, [], .slice (some ⟨q, 0, none⟩) 1 1, v1, v2, v3, .slice none 0 0, .slice none 0 0, .slice none 0 0, .slice none 0 0⟩
  | .where_ n1 => ⟨5, [n1], [], [], [], [], [], [], ⟨[], 0, 0, 0, []⟩, [], .slice (some ⟨q, 0, none⟩) 1 1, .slice none 0 0, .slice none 0 0, .slice none 0 0, .slice none 0 0, .slice none 0 0, .slice none 0 0, .slice none 0 0⟩
  | .have_ n1 n2 n3 l1 v1 => ⟨6, [n1, n2, n3], [], [], [], l1, [], [], ⟨[], 0, 0, 0, []⟩, [], .slice (some ⟨q, 0, none⟩) 3 3, .slice none 0 0, .slice none 0 0, .slice none 0 0, v1, .slice none 0 0, .slice none 0 0, .slice none 0 0⟩
  | .logs_ n1 n2 n3 n4 n5 n6 l1 v1 => ⟨7, [n1, n2, n3, n4, n5, n6], [], [], [], [], l1, [], ⟨[], 0, 0, 0, []⟩, [], .slice (some ⟨q, 0, none⟩) 6 6, .slice none 0 0, .slice none 0 0, .slice none 0 0, .slice none 0 0, v1, .slice none 0 0, .slice none 0 0⟩
  | .ack_ n1 n2 n3 => ⟨8, [n1, n2, n3], [], [], [], [], [], [], ⟨[], 0, 0, 0, []⟩, [], .slice (some ⟨q, 0, none⟩) 3 3, .slice none 0 0, .slice none 0 0, .slice none 0 0, .slice none 0 0, .slice none 0 0, .slice none 0 0, .slice none 0 0⟩
  | .ask_ n1 n2 n3 n4 => ⟨9, [n1, n2, n3, n4], [], [], [], [], [], [], ⟨[], 0, 0, 0, []⟩, [], .slice (some ⟨q, 0, none⟩) 4 4, .slice none 0 0, .slice none 0 0, .slice none 0 0, .slice none 0 0, .slice none 0 0, .slice none 0 0, .slice none 0 0⟩
  | .told_ n1 n2 n3 n4 => ⟨10, [n1, n2, n3, n4], [], [], [], [], [], [], ⟨[], 0, 0, 0, []⟩, [], .slice (some ⟨q, 0, none⟩) 4 4, .slice none 0 0, .slice none 0 0, .slice none 0 0, .slice none 0 0, .slice none 0 0, .slice none 0 0, .slice none 0 0⟩
  | .append_ n1 bt v1 => ⟨11, [n1], [], [], [], [], [], [], bt, [], .slice (some ⟨q, 0, none⟩) 1 1, .slice none 0 0, .slice none 0 0, .slice none 0 0, .slice none 0 0, .slice none 0 0, .slice none 0 0, v1⟩
  | .read_ n1 n2 s => ⟨12, [n1, n2], [], [], [], [], [], [], ⟨[], 0, 0, 0, []⟩, s, .slice (some ⟨q, 0, none⟩) 2 2, .slice none 0 0, .slice none 0 0, .slice none 0 0, .slice none 0 0, .slice none 0 0, .slice none 0 0, .slice none 0 0⟩
  | .reply_ n1 n2 n3 n4 n5 n6 => ⟨13, [n1, n2, n3, n4, n5, n6], [], [], [], [], [], [], ⟨[], 0, 0, 0, []⟩, [], .slice (some ⟨q, 0, none⟩) 6 6, .slice none 0 0, .slice none 0 0, .slice none 0 0, .slice none 0 0, .slice none 0 0, .slice none 0 0, .slice none 0 0⟩
  | .result_ n1 n2 n3 l1 v1 => ⟨14, [n1, n2, n3], [], [], [], [], [], l1, ⟨[], 0, 0, 0, []⟩, [], .slice (some ⟨q, 0, none⟩) 3 3, .slice none 0 0, .slice none 0 0, .slice none 0 0, .slice none 0 0, .slice none 0 0, v1, .slice none 0 0⟩
theorem fl_val (m : MV) (q : Nat) : (m.fl q).val = .agg (m.flat q) := by cases m <;> rfl
theorem fl_kind (m : MV) (q : Nat) : (m.fl q).kind = m.kind := by cases m <;> rfl
theorem fl_ns (m : MV) (q : Nat) : (m.fl q).ns = m.nums := by cases m <;> rfl
theorem fl_cnt (m : MV) (q : Nat) : cntN (shapeT (m.fl q).kind) ≤ (m.fl q).ns.length := by
  cases m <;> simp [MV.fl, shapeT, cntN]
theorem fl_ep (m : MV) (q : Nat) : epI (m.fl q).kind (m.fl q).ns = m.epoch := by cases m <;> rfl
theorem fl_bytes (m : MV) (q : Nat) : (m.fl q).bytes = m.bytes := by
  cases m <;> simp [MV.fl, Fl.bytes, flB, restB, letB, shapeT, MV.bytes, M.bytesM, MV.kind, MV.parts, M.putP]
theorem fl_right (m : MV) (q : Nat) : (m.fl q).right = m.right := by
  rw [Bool.eq_iff_iff]
  cases m with
  | beat_ n1 n2 n3 =>
    show (tests 1 [n1, n2, n3] [] [] [] [] (ensOf []) [] ⟨[], 0, 0, 0, []⟩ []).all id = true ↔ _
    simp [tests, lastT, MV.right, MV.parts, M.rightP]
  | join_ n1 n2 =>
    show (tests 2 [n1, n2] [] [] [] [] (ensOf []) [] ⟨[], 0, 0, 0, []⟩ []).all id = true ↔ _
    simp [tests, lastT, MV.right, MV.parts, M.rightP]
  | lease_ n1 n2 =>
    show (tests 3 [n1, n2] [] [] [] [] (ensOf []) [] ⟨[], 0, 0, 0, []⟩ []).all id = true ↔ _
    simp [tests, lastT, MV.right, MV.parts, M.rightP]
  | view_ n1 l1 v1 l2 v2 l3 v3 =>
    show (tests 4 [n1] l1 l2 l3 [] (ensOf []) [] ⟨[], 0, 0, 0, []⟩ []).all id = true ↔ _
    simp [tests, lastT, MV.right, MV.parts, M.rightP, and_assoc, and_left_comm]
  | where_ n1 =>
    show (tests 5 [n1] [] [] [] [] (ensOf []) [] ⟨[], 0, 0, 0, []⟩ []).all id = true ↔ _
    simp [tests, lastT, MV.right, MV.parts, M.rightP]
  | have_ n1 n2 n3 l1 v1 =>
    show (tests 6 [n1, n2, n3] [] [] [] l1 (ensOf []) [] ⟨[], 0, 0, 0, []⟩ []).all id = true ↔ _
    simp [tests, lastT, MV.right, MV.parts, M.rightP, mkR, and_assoc, and_left_comm]
  | logs_ n1 n2 n3 n4 n5 n6 l1 v1 =>
    show (tests 7 [n1, n2, n3, n4, n5, n6] [] [] [] [] (ensOf l1) [] ⟨[], 0, 0, 0, []⟩ []).all id = true ↔ _
    simp [tests, lastT, MV.right, MV.parts, M.rightP, and_assoc, and_left_comm]
  | ack_ n1 n2 n3 =>
    show (tests 8 [n1, n2, n3] [] [] [] [] (ensOf []) [] ⟨[], 0, 0, 0, []⟩ []).all id = true ↔ _
    simp [tests, lastT, MV.right, MV.parts, M.rightP]
  | ask_ n1 n2 n3 n4 =>
    show (tests 9 [n1, n2, n3, n4] [] [] [] [] (ensOf []) [] ⟨[], 0, 0, 0, []⟩ []).all id = true ↔ _
    simp [tests, lastT, MV.right, MV.parts, M.rightP]
  | told_ n1 n2 n3 n4 =>
    show (tests 10 [n1, n2, n3, n4] [] [] [] [] (ensOf []) [] ⟨[], 0, 0, 0, []⟩ []).all id = true ↔ _
    simp [tests, lastT, MV.right, MV.parts, M.rightP]
  | append_ n1 bt v1 =>
    show (tests 11 [n1] [] [] [] [] (ensOf []) [] bt []).all id = true ↔ _
    simp [tests, lastT, MV.right, MV.parts, M.rightP, and_comm]
  | read_ n1 n2 s =>
    show (tests 12 [n1, n2] [] [] [] [] (ensOf []) [] ⟨[], 0, 0, 0, []⟩ s).all id = true ↔ _
    simp [tests, lastT, MV.right, MV.parts, M.rightP, and_comm, and_left_comm]
  | reply_ n1 n2 n3 n4 n5 n6 =>
    show (tests 13 [n1, n2, n3, n4, n5, n6] [] [] [] [] (ensOf []) [] ⟨[], 0, 0, 0, []⟩ []).all id = true ↔ _
    simp [tests, lastT, MV.right, MV.parts, M.rightP]
  | result_ n1 n2 n3 l1 v1 =>
    show (tests 14 [n1, n2, n3] [] [] [] [] (ensOf []) l1 ⟨[], 0, 0, 0, []⟩ []).all id = true ↔ _
    simp [tests, lastT, MV.right, MV.parts, M.rightP, and_assoc, and_left_comm]
def MV.Tiny : MV → Prop
  | .logs_ _ _ _ _ _ _ l1 _ => ∀ e ∈ l1, E.Tiny e.1.b
  | .append_ _ bt _ => E.Tiny bt
  | .read_ _ _ s => s.length ≤ 1000000
  | .result_ _ _ _ l1 _ => ∀ e ∈ l1, e.1.length ≤ 1000000
  | _ => True
theorem readsJ_new {w : World} {q n : Nat} {zs : List Int} (hq : w.heap[q]? = some (.cells (intsA zs) 3 (0, 0))) (hn : zs.length = n) : ReadsJ w (.slice (some ⟨q, 0, none⟩) n n) zs := by
  subst hn
  refine ⟨some ⟨q, 0, none⟩, zs.length, rfl, fun i hi => ⟨q, 0, rfl, ?_⟩⟩
  rw [Nat.zero_add, block_cell hq i]
  simp [intsA, hi]
theorem readsJ_nil (w : World) : ReadsJ w (.slice none 0 0) [] := ⟨none, 0, rfl, fun i hi => by simp at hi⟩
theorem readsM_nil (w : World) : ReadsM w (.slice none 0 0) [] := ⟨none, 0, rfl, Nat.le_refl _, fun _ => rfl, fun i hi => by simp at hi⟩
theorem readsR_nil (w : World) : ReadsR w (.slice none 0 0) [] := ⟨none, 0, rfl, Nat.le_refl _, fun _ => rfl, fun i hi => by simp at hi⟩
theorem readsE_nil (w : World) : ReadsE w (.slice none 0 0) [] := ⟨none, 0, rfl, Nat.le_refl _, fun _ => rfl, fun i hi => by simp at hi⟩
theorem tiny_nil : E.Tiny ⟨[], 0, 0, 0, []⟩ := ⟨Nat.zero_le _, fun _ e he => by simp at he⟩
theorem fl_reads (m : MV) (q : Nat) (w : World) (hr : m.Reads w) (hz : m.Tiny) (hq : w.heap[q]? = some (.cells (intsA m.nums) 3 (0, 0))) : (m.fl q).Reads w := by
  cases m with
  | beat_ n1 n2 n3 => exact ⟨readsJ_new hq rfl, readsJ_nil w, readsJ_nil w, readsJ_nil w, readsM_nil w, readsR_nil w, readsE_nil w, readsE_nil w, by simp [MV.fl], (fun _ h => by cases h), (fun _ h => by cases h), tiny_nil, Nat.zero_le _⟩
  | join_ n1 n2 => exact ⟨readsJ_new hq rfl, readsJ_nil w, readsJ_nil w, readsJ_nil w, readsM_nil w, readsR_nil w, readsE_nil w, readsE_nil w, by simp [MV.fl], (fun _ h => by cases h), (fun _ h => by cases h), tiny_nil, Nat.zero_le _⟩
  | lease_ n1 n2 => exact ⟨readsJ_new hq rfl, readsJ_nil w, readsJ_nil w, readsJ_nil w, readsM_nil w, readsR_nil w, readsE_nil w, readsE_nil w, by simp [MV.fl], (fun _ h => by cases h), (fun _ h => by cases h), tiny_nil, Nat.zero_le _⟩
  | view_ n1 l1 v1 l2 v2 l3 v3 => exact ⟨readsJ_new hq rfl, readsJ_I hr.1, readsJ_I hr.2.1, readsJ_I hr.2.2, readsM_nil w, readsR_nil w, readsE_nil w, readsE_nil w, by simp [MV.fl], (fun _ h => by cases h), (fun _ h => by cases h), tiny_nil, Nat.zero_le _⟩
  | where_ n1 => exact ⟨readsJ_new hq rfl, readsJ_nil w, readsJ_nil w, readsJ_nil w, readsM_nil w, readsR_nil w, readsE_nil w, readsE_nil w, by simp [MV.fl], (fun _ h => by cases h), (fun _ h => by cases h), tiny_nil, Nat.zero_le _⟩
  | have_ n1 n2 n3 l1 v1 => exact ⟨readsJ_new hq rfl, readsJ_nil w, readsJ_nil w, readsJ_nil w, hr, readsR_nil w, readsE_nil w, readsE_nil w, by simp [MV.fl], (fun _ h => by cases h), (fun _ h => by cases h), tiny_nil, Nat.zero_le _⟩
  | logs_ n1 n2 n3 n4 n5 n6 l1 v1 => exact ⟨readsJ_new hq rfl, readsJ_nil w, readsJ_nil w, readsJ_nil w, readsM_nil w, hr.1, readsE_nil w, readsE_nil w, by simp [MV.fl], hz, (fun _ h => by cases h), tiny_nil, Nat.zero_le _⟩
  | ack_ n1 n2 n3 => exact ⟨readsJ_new hq rfl, readsJ_nil w, readsJ_nil w, readsJ_nil w, readsM_nil w, readsR_nil w, readsE_nil w, readsE_nil w, by simp [MV.fl], (fun _ h => by cases h), (fun _ h => by cases h), tiny_nil, Nat.zero_le _⟩
  | ask_ n1 n2 n3 n4 => exact ⟨readsJ_new hq rfl, readsJ_nil w, readsJ_nil w, readsJ_nil w, readsM_nil w, readsR_nil w, readsE_nil w, readsE_nil w, by simp [MV.fl], (fun _ h => by cases h), (fun _ h => by cases h), tiny_nil, Nat.zero_le _⟩
  | told_ n1 n2 n3 n4 => exact ⟨readsJ_new hq rfl, readsJ_nil w, readsJ_nil w, readsJ_nil w, readsM_nil w, readsR_nil w, readsE_nil w, readsE_nil w, by simp [MV.fl], (fun _ h => by cases h), (fun _ h => by cases h), tiny_nil, Nat.zero_le _⟩
  | append_ n1 bt v1 => exact ⟨readsJ_new hq rfl, readsJ_nil w, readsJ_nil w, readsJ_nil w, readsM_nil w, readsR_nil w, readsE_nil w, hr.1, by simp [MV.fl], (fun _ h => by cases h), (fun _ h => by cases h), hz, Nat.zero_le _⟩
  | read_ n1 n2 s => exact ⟨readsJ_new hq rfl, readsJ_nil w, readsJ_nil w, readsJ_nil w, readsM_nil w, readsR_nil w, readsE_nil w, readsE_nil w, by simp [MV.fl], (fun _ h => by cases h), (fun _ h => by cases h), tiny_nil, hz⟩
  | reply_ n1 n2 n3 n4 n5 n6 => exact ⟨readsJ_new hq rfl, readsJ_nil w, readsJ_nil w, readsJ_nil w, readsM_nil w, readsR_nil w, readsE_nil w, readsE_nil w, by simp [MV.fl], (fun _ h => by cases h), (fun _ h => by cases h), tiny_nil, Nat.zero_le _⟩
  | result_ n1 n2 n3 l1 v1 => exact ⟨readsJ_new hq rfl, readsJ_nil w, readsJ_nil w, readsJ_nil w, readsM_nil w, readsR_nil w, hr.1, readsE_nil w, by simp [MV.fl], (fun _ h => by cases h), hz, tiny_nil, Nat.zero_le _⟩
end Go.Proofs.YtljcgpdjhjkciaaGreat
namespace Go.Proofs.YtljcgpdjhjkciaaGreat
open Go.ChangeShapes Go.WideShapes Go.ChangeAt Go.RowKit
open Go.ChangeMaps (open_string shut_string)
attribute [local go_sem] ext_Bd ext_Bl ext_Bt toList_B add_B size_B get_Bt

theorem messagePuts_own : ownKnob Tryz.prog.godebug = none := by kernel_rfl
theorem messagePuts_laid : laidOutB Tryz.prog = true := by kernel_rfl

theorem exec_load_row {P : Program} {o : Oper} {a : Act} {w : World} (ty : TypeId) (x : Operand) (ho : o.op = .load ty x)
    (g : Nat) (hx : a.eval x = .pointer (some ⟨g, 0, none⟩)) (t : TypeId) (cs : Array Value) (fr : Nat × Nat) (d : TypeDesc) (hg : w.heap[g]? = some (.cells cs t fr))
    (hu : P.underlying ty = some d) (hd : (match d with | .struct _ | .array _ _ => true | _ => false) = true) (hi : (P.info? ty).map (·.size) = some cs.size) :
    (execOp a.eval o).run P w = .ok (.value (.agg cs)) w := by
  unfold execOp
  simp only [ho, hx, Instr.loadAt, Instr.sureAddr, Sem.run_bind, Sem.run_pure, Result.andThen_ok, run_loadVar_row w g t ty cs fr d hg hu hd hi]
theorem below_alloc_block {w : World} {q : Nat} {o : Obj} (h : w.heap[q]? = some o) (o2 : Obj) : (w.alloc o2).heap[q]? = some o :=
  block_below h ((Below.refl _ w).alloc (Nat.le_refl _) o2)
theorem flat_form (m : MV) (q : Nat) (w : World) (hr : m.Reads w) : ∃ (xk : Int) (xa1 : Option Addr) (xb1 xc1 : Nat) (xa2 : Option Addr) (xb2 xc2 : Nat) (xa3 : Option Addr) (xb3 xc3 : Nat) (xa4 : Option Addr) (xb4 xc4 : Nat) (xa5 : Option Addr) (xb5 xc5 : Nat) (xa6 : Option Addr) (xb6 xc6 : Nat) (xa7 : Option Addr) (xb7 xc7 : Nat) (xs1 : ByteArray) (xn1 xn2 xn3 : Int) (xa8 : Option Addr) (xb8 xc8 : Nat) (xs2 : ByteArray), m.flat q = #[.int .i64 xk, .slice xa1 xb1 xc1, .slice xa2 xb2 xc2, .slice xa3 xb3 xc3, .slice xa4 xb4 xc4, .slice xa5 xb5 xc5, .slice xa6 xb6 xc6, .slice xa7 xb7 xc7, .string xs1, .int .i64 xn1, .int .i64 xn2, .int .i64 xn3, .slice xa8 xb8 xc8, .string xs2] := by
  cases m with
  | beat_ n1 n2 n3 =>
    exact ⟨_, _, _, _, _, _, _, _, _, _, _, _, _, _, _, _, _, _, _, _, _, _, _, _, _, _, _, _, _, _, rfl⟩
  | join_ n1 n2 =>
    exact ⟨_, _, _, _, _, _, _, _, _, _, _, _, _, _, _, _, _, _, _, _, _, _, _, _, _, _, _, _, _, _, rfl⟩
  | lease_ n1 n2 =>
    exact ⟨_, _, _, _, _, _, _, _, _, _, _, _, _, _, _, _, _, _, _, _, _, _, _, _, _, _, _, _, _, _, rfl⟩
  | view_ n1 l1 v1 l2 v2 l3 v3 =>
    obtain ⟨a1, b1, c1, rfl⟩ := formI hr.1
    obtain ⟨a2, b2, c2, rfl⟩ := formI hr.2.1
    obtain ⟨a3, b3, c3, rfl⟩ := formI hr.2.2
    exact ⟨_, _, _, _, _, _, _, _, _, _, _, _, _, _, _, _, _, _, _, _, _, _, _, _, _, _, _, _, _, _, rfl⟩
  | where_ n1 =>
    exact ⟨_, _, _, _, _, _, _, _, _, _, _, _, _, _, _, _, _, _, _, _, _, _, _, _, _, _, _, _, _, _, rfl⟩
  | have_ n1 n2 n3 l1 v1 =>
    obtain ⟨a1, b1, c1, rfl⟩ := formM hr
    exact ⟨_, _, _, _, _, _, _, _, _, _, _, _, _, _, _, _, _, _, _, _, _, _, _, _, _, _, _, _, _, _, rfl⟩
  | logs_ n1 n2 n3 n4 n5 n6 l1 v1 =>
    obtain ⟨a1, b1, c1, rfl⟩ := formR hr.1
    exact ⟨_, _, _, _, _, _, _, _, _, _, _, _, _, _, _, _, _, _, _, _, _, _, _, _, _, _, _, _, _, _, rfl⟩
  | ack_ n1 n2 n3 =>
    exact ⟨_, _, _, _, _, _, _, _, _, _, _, _, _, _, _, _, _, _, _, _, _, _, _, _, _, _, _, _, _, _, rfl⟩
  | ask_ n1 n2 n3 n4 =>
    exact ⟨_, _, _, _, _, _, _, _, _, _, _, _, _, _, _, _, _, _, _, _, _, _, _, _, _, _, _, _, _, _, rfl⟩
  | told_ n1 n2 n3 n4 =>
    exact ⟨_, _, _, _, _, _, _, _, _, _, _, _, _, _, _, _, _, _, _, _, _, _, _, _, _, _, _, _, _, _, rfl⟩
  | append_ n1 bt v1 =>
    obtain ⟨a1, b1, c1, rfl⟩ := readsE_form hr.1
    exact ⟨_, _, _, _, _, _, _, _, _, _, _, _, _, _, _, _, _, _, _, _, _, _, _, _, _, _, _, _, _, _, rfl⟩
  | read_ n1 n2 s =>
    exact ⟨_, _, _, _, _, _, _, _, _, _, _, _, _, _, _, _, _, _, _, _, _, _, _, _, _, _, _, _, _, _, rfl⟩
  | reply_ n1 n2 n3 n4 n5 n6 =>
    exact ⟨_, _, _, _, _, _, _, _, _, _, _, _, _, _, _, _, _, _, _, _, _, _, _, _, _, _, _, _, _, _, rfl⟩
  | result_ n1 n2 n3 l1 v1 =>
    obtain ⟨a1, b1, c1, rfl⟩ := readsE_form hr.1
    exact ⟨_, _, _, _, _, _, _, _, _, _, _, _, _, _, _, _, _, _, _, _, _, _, _, _, _, _, _, _, _, _, rfl⟩
theorem made_tiny {d : Dr} {m : MV} (h : d.msg = some m) (ht : TinyP d.en d.ev d.bt d.st) : m.Tiny := by
  unfold Dr.msg at h
  by_cases h1 : d.kind = 1
  · rw [if_pos h1] at h
    cases h
    exact trivial
  rw [if_neg h1] at h
  by_cases h2 : d.kind = 2
  · rw [if_pos h2] at h
    cases h
    exact trivial
  rw [if_neg h2] at h
  by_cases h3 : d.kind = 3
  · rw [if_pos h3] at h
    cases h
    exact trivial
  rw [if_neg h3] at h
  by_cases h4 : d.kind = 4
  · rw [if_pos h4] at h
    cases h
    exact trivial
  rw [if_neg h4] at h
  by_cases h5 : d.kind = 5
  · rw [if_pos h5] at h
    cases h
    exact trivial
  rw [if_neg h5] at h
  by_cases h6 : d.kind = 6
  · rw [if_pos h6] at h
    cases h
    exact trivial
  rw [if_neg h6] at h
  by_cases h7 : d.kind = 7
  · rw [if_pos h7] at h
    cases h
    exact ht.en
  rw [if_neg h7] at h
  by_cases h8 : d.kind = 8
  · rw [if_pos h8] at h
    cases h
    exact trivial
  rw [if_neg h8] at h
  by_cases h9 : d.kind = 9
  · rw [if_pos h9] at h
    cases h
    exact trivial
  rw [if_neg h9] at h
  by_cases h10 : d.kind = 10
  · rw [if_pos h10] at h
    cases h
    exact trivial
  rw [if_neg h10] at h
  by_cases h11 : d.kind = 11
  · rw [if_pos h11] at h
    cases h
    exact ht.bt
  rw [if_neg h11] at h
  by_cases h12 : d.kind = 12
  · rw [if_pos h12] at h
    cases h
    exact ht.st
  rw [if_neg h12] at h
  by_cases h13 : d.kind = 13
  · rw [if_pos h13] at h
    cases h
    exact trivial
  rw [if_neg h13] at h
  by_cases h14 : d.kind = 14
  · rw [if_pos h14] at h
    cases h
    exact ht.ev
  rw [if_neg h14] at h
  cases h
set_option maxHeartbeats 8000000 in
set_option maxRecDepth 100000 in
theorem puts_none (d : Dr) (w : World) (hr : d.Reads w) (hz : d.Sized) (hm : d.msg = none) :
    Calls Tryz.prog 3 #[d.val] w fun r w' => r = .returned (.bool true) ∧ Below w.heap.size w w' := by
  have hne := not_nil
  have hin := is_nil
  obtain ⟨dkind, dn0, dn1, dn2, dn3, dn4, dn5, dch, dsi, dbo, dma, den, dev, ⟨dst, dex, dse, dsq, devs⟩, dstr, dvc, dvs, dvb, dvm, dve, dvv, dvt⟩ := d
  obtain ⟨da1, db1, dc1, hq1⟩ := formI hr.ch
  obtain ⟨da2, db2, dc2, hq2⟩ := formI hr.si
  obtain ⟨da3, db3, dc3, hq3⟩ := formI hr.bo
  obtain ⟨da4, db4, dc4, hq4⟩ := formM hr.ma
  obtain ⟨da5, db5, dc5, hq5⟩ := formR hr.en
  obtain ⟨da6, db6, dc6, hq6⟩ := readsE_form hr.ev
  obtain ⟨da7, db7, dc7, hq7⟩ := readsE_form hr.bt
  dsimp only at hq1 hq2 hq3 hq4 hq5 hq6 hq7
  subst hq1 hq2 hq3 hq4 hq5 hq6 hq7
  have HRD := Lib.hid hr
  have HZD := Lib.hid hz
  clear hr hz
  dsimp only [Dr.val]
  go_enter Tryz.func3, Tryz.ntmps3
  go_wp2_with fail
  refine (shown7_l _).mono ?_
  rintro x w1 ⟨rfl, hb1⟩
  have HX1 := Lib.hid (block_below (new_at (w := w) (ob := .cells #[.int .i64 dkind, .int .i64 dn0, .int .i64 dn1, .int .i64 dn2, .int .i64 dn3, .int .i64 dn4, .int .i64 dn5, .slice da1 db1 dc1, .slice da2 db2 dc2, .slice da3 db3 dc3, .slice da4 db4 dc4, .slice da5 db5 dc5, .slice da6 db6 dc6, .string (B dst), .int .i64 dex, .int .i64 dse, .int .i64 dsq, .slice da7 db7 dc7, .string (B dstr)] 30) rfl) hb1)
  have HB1 := Lib.hid (below_box hb1)
  clear hb1
  go_upto_region 2 with (fail)
  refine wp_region_lit ?_
  refine wpList_load_row rfl 30 (.tmp 1) rfl (w.heap.size) rfl 30 #[.int .i64 dkind, .int .i64 dn0, .int .i64 dn1, .int .i64 dn2, .int .i64 dn3, .int .i64 dn4, .int .i64 dn5, .slice da1 db1 dc1, .slice da2 db2 dc2, .slice da3 db3 dc3, .slice da4 db4 dc4, .slice da5 db5 dc5, .slice da6 db6 dc6, .string (B dst), .int .i64 dex, .int .i64 dse, .int .i64 dsq, .slice da7 db7 dc7, .string (B dstr)] (0, 0) _ HX1.out Tryz.underlying30 rfl (by kernel_rfl) ?_
  go_wp2_with fail
  refine (small7_z ⟨dkind, dn0, dn1, dn2, dn3, dn4, dn5, dch, dsi, dbo, dma, den, dev, ⟨dst, dex, dse, dsq, devs⟩, dstr, .slice da1 db1 dc1, .slice da2 db2 dc2, .slice da3 db3 dc3, .slice da4 db4 dc4, .slice da5 db5 dc5, .slice da6 db6 dc6, .slice da7 db7 dc7⟩ w1 (HRD.out.below HB1.out) HZD.out).mono ?_
  rintro x w2 ⟨hok, hb2⟩
  have HX2 := Lib.hid (block_below HX1.out hb2)
  have HB2 := Lib.hid (HB1.out.trans (hb2.mono HB1.out.size))
  have HOK : Hid (x = .returned (.bool true) → TinyP den dev ⟨dst, dex, dse, dsq, devs⟩ dstr) := Lib.hid fun h => by
    rcases hok with h1 | ⟨-, h2⟩
    · rw [h] at h1; cases h1
    · exact h2
  obtain ⟨ok, rfl⟩ : ∃ ok, x = .returned (.bool ok) := by rcases hok with h | ⟨h, -⟩ <;> exact ⟨_, h⟩
  clear hok hb2 HX1 HB1
  have hC : Calls Tryz.prog 6 #[Dr.val ⟨dkind, dn0, dn1, dn2, dn3, dn4, dn5, dch, dsi, dbo, dma, den, dev, ⟨dst, dex, dse, dsq, devs⟩, dstr, .slice da1 db1 dc1, .slice da2 db2 dc2, .slice da3 db3 dc3, .slice da4 db4 dc4, .slice da5 db5 dc5, .slice da6 db6 dc6, .slice da7 db7 dc7⟩] w2 fun x w' => x = .returned .nilIface ∧ Below w2.heap.size w2 w' := by
    rcases made_at ⟨dkind, dn0, dn1, dn2, dn3, dn4, dn5, dch, dsi, dbo, dma, den, dev, ⟨dst, dex, dse, dsq, devs⟩, dstr, .slice da1 db1 dc1, .slice da2 db2 dc2, .slice da3 db3 dc3, .slice da4 db4 dc4, .slice da5 db5 dc5, .slice da6 db6 dc6, .slice da7 db7 dc7⟩ w2 w HRD.out with ⟨m, hm2, -⟩ | ⟨-, hC⟩
    · rw [hm] at hm2; cases hm2
    · exact hC
  clear hm
  have HC9 := Lib.hid hC
  clear hC HOK
  go_upto_region 3 with (fail)
  refine wp_region_lit ?_
  refine wpList_load_row rfl 30 (.tmp 1) rfl (w.heap.size) rfl 30 #[.int .i64 dkind, .int .i64 dn0, .int .i64 dn1, .int .i64 dn2, .int .i64 dn3, .int .i64 dn4, .int .i64 dn5, .slice da1 db1 dc1, .slice da2 db2 dc2, .slice da3 db3 dc3, .slice da4 db4 dc4, .slice da5 db5 dc5, .slice da6 db6 dc6, .string (B dst), .int .i64 dex, .int .i64 dse, .int .i64 dsq, .slice da7 db7 dc7, .string (B dstr)] (0, 0) _ HX2.out Tryz.underlying30 rfl (by kernel_rfl) ?_
  go_wp2_with fail
  refine HC9.out.mono ?_
  rintro x w3 ⟨rfl, hb3⟩
  have HB3 := Lib.hid (HB2.out.trans (hb3.mono HB2.out.size))
  clear hb3
  cases ok
  · go_wp2
    go_ret
    exact ⟨rfl, HB3.out⟩
  · go_wp2
    go_ret
    exact ⟨rfl, HB3.out⟩
set_option maxHeartbeats 8000000 in
set_option maxRecDepth 100000 in
theorem puts_some (d : Dr) (w : World) (hr : d.Reads w) (hz : d.Sized) (m : MV) (hm : d.msg = some m) :
    Calls Tryz.prog 3 #[d.val] w fun r w' => r = .returned (.bool true) ∧ Below w.heap.size w w' := by
  have hne := not_nil
  have hin := is_nil
  obtain ⟨dkind, dn0, dn1, dn2, dn3, dn4, dn5, dch, dsi, dbo, dma, den, dev, ⟨dst, dex, dse, dsq, devs⟩, dstr, dvc, dvs, dvb, dvm, dve, dvv, dvt⟩ := d
  obtain ⟨da1, db1, dc1, hq1⟩ := formI hr.ch
  obtain ⟨da2, db2, dc2, hq2⟩ := formI hr.si
  obtain ⟨da3, db3, dc3, hq3⟩ := formI hr.bo
  obtain ⟨da4, db4, dc4, hq4⟩ := formM hr.ma
  obtain ⟨da5, db5, dc5, hq5⟩ := formR hr.en
  obtain ⟨da6, db6, dc6, hq6⟩ := readsE_form hr.ev
  obtain ⟨da7, db7, dc7, hq7⟩ := readsE_form hr.bt
  dsimp only at hq1 hq2 hq3 hq4 hq5 hq6 hq7
  subst hq1 hq2 hq3 hq4 hq5 hq6 hq7
  have HRD := Lib.hid hr
  have HZD := Lib.hid hz
  clear hr hz
  dsimp only [Dr.val]
  go_enter Tryz.func3, Tryz.ntmps3
  go_wp2_with fail
  refine (shown7_l _).mono ?_
  rintro x w1 ⟨rfl, hb1⟩
  have HX1 := Lib.hid (block_below (new_at (w := w) (ob := .cells #[.int .i64 dkind, .int .i64 dn0, .int .i64 dn1, .int .i64 dn2, .int .i64 dn3, .int .i64 dn4, .int .i64 dn5, .slice da1 db1 dc1, .slice da2 db2 dc2, .slice da3 db3 dc3, .slice da4 db4 dc4, .slice da5 db5 dc5, .slice da6 db6 dc6, .string (B dst), .int .i64 dex, .int .i64 dse, .int .i64 dsq, .slice da7 db7 dc7, .string (B dstr)] 30) rfl) hb1)
  have HB1 := Lib.hid (below_box hb1)
  clear hb1
  go_upto_region 2 with (fail)
  refine wp_region_lit ?_
  refine wpList_load_row rfl 30 (.tmp 1) rfl (w.heap.size) rfl 30 #[.int .i64 dkind, .int .i64 dn0, .int .i64 dn1, .int .i64 dn2, .int .i64 dn3, .int .i64 dn4, .int .i64 dn5, .slice da1 db1 dc1, .slice da2 db2 dc2, .slice da3 db3 dc3, .slice da4 db4 dc4, .slice da5 db5 dc5, .slice da6 db6 dc6, .string (B dst), .int .i64 dex, .int .i64 dse, .int .i64 dsq, .slice da7 db7 dc7, .string (B dstr)] (0, 0) _ HX1.out Tryz.underlying30 rfl (by kernel_rfl) ?_
  go_wp2_with fail
  refine (small7_z ⟨dkind, dn0, dn1, dn2, dn3, dn4, dn5, dch, dsi, dbo, dma, den, dev, ⟨dst, dex, dse, dsq, devs⟩, dstr, .slice da1 db1 dc1, .slice da2 db2 dc2, .slice da3 db3 dc3, .slice da4 db4 dc4, .slice da5 db5 dc5, .slice da6 db6 dc6, .slice da7 db7 dc7⟩ w1 (HRD.out.below HB1.out) HZD.out).mono ?_
  rintro x w2 ⟨hok, hb2⟩
  have HX2 := Lib.hid (block_below HX1.out hb2)
  have HB2 := Lib.hid (HB1.out.trans (hb2.mono HB1.out.size))
  have HOK : Hid (x = .returned (.bool true) → TinyP den dev ⟨dst, dex, dse, dsq, devs⟩ dstr) := Lib.hid fun h => by
    rcases hok with h1 | ⟨-, h2⟩
    · rw [h] at h1; cases h1
    · exact h2
  obtain ⟨ok, rfl⟩ : ∃ ok, x = .returned (.bool ok) := by rcases hok with h | ⟨h, -⟩ <;> exact ⟨_, h⟩
  clear hok hb2 HX1 HB1
  have hC : Calls Tryz.prog 6 #[Dr.val ⟨dkind, dn0, dn1, dn2, dn3, dn4, dn5, dch, dsi, dbo, dma, den, dev, ⟨dst, dex, dse, dsq, devs⟩, dstr, .slice da1 db1 dc1, .slice da2 db2 dc2, .slice da3 db3 dc3, .slice da4 db4 dc4, .slice da5 db5 dc5, .slice da6 db6 dc6, .slice da7 db7 dc7⟩] w2 fun x w' => x = .returned m.val ∧ Below w2.heap.size w2 w' := by
    rcases made_at ⟨dkind, dn0, dn1, dn2, dn3, dn4, dn5, dch, dsi, dbo, dma, den, dev, ⟨dst, dex, dse, dsq, devs⟩, dstr, .slice da1 db1 dc1, .slice da2 db2 dc2, .slice da3 db3 dc3, .slice da4 db4 dc4, .slice da5 db5 dc5, .slice da6 db6 dc6, .slice da7 db7 dc7⟩ w2 w HRD.out with ⟨m2, hm2, hC⟩ | ⟨hm2, -⟩
    · rw [hm] at hm2; cases hm2; exact hC
    · rw [hm] at hm2; cases hm2
  have hM := made_is HRD.out hm
  obtain ⟨u, z, kf, hv, hmeth, hcf, hkf⟩ := kind_of m w hM.reads
  have HTT : Hid (TinyP den dev ⟨dst, dex, dse, dsq, devs⟩ dstr → m.Tiny) := Lib.hid fun h => made_tiny hm h
  have HM := Lib.hid hM
  have HC : Hid (Calls Tryz.prog 6 #[Dr.val ⟨dkind, dn0, dn1, dn2, dn3, dn4, dn5, dch, dsi, dbo, dma, den, dev, ⟨dst, dex, dse, dsq, devs⟩, dstr, .slice da1 db1 dc1, .slice da2 db2 dc2, .slice da3 db3 dc3, .slice da4 db4 dc4, .slice da5 db5 dc5, .slice da6 db6 dc6, .slice da7 db7 dc7⟩] w2 fun x w' => x = .returned (.iface u z) ∧ Below w2.heap.size w2 w') := Lib.hid (by rw [← hv]; exact hC)
  have HV := Lib.hid hv
  have HKF : Hid (∀ W, Calls Tryz.prog kf #[z] W fun x w' => x = .returned (.int .i64 dkind) ∧ Below W.heap.size W w') := Lib.hid fun W => by
    have h := hkf W
    rw [show (m.kind : Int) = dkind from hM.kind] at h
    exact h
  clear hm hM hC hv hkf
  go_upto_region 3 with (fail)
  refine wp_region_lit ?_
  refine wpList_load_row rfl 30 (.tmp 1) rfl (w.heap.size) rfl 30 #[.int .i64 dkind, .int .i64 dn0, .int .i64 dn1, .int .i64 dn2, .int .i64 dn3, .int .i64 dn4, .int .i64 dn5, .slice da1 db1 dc1, .slice da2 db2 dc2, .slice da3 db3 dc3, .slice da4 db4 dc4, .slice da5 db5 dc5, .slice da6 db6 dc6, .string (B dst), .int .i64 dex, .int .i64 dse, .int .i64 dsq, .slice da7 db7 dc7, .string (B dstr)] (0, 0) _ HX2.out Tryz.underlying30 rfl (by kernel_rfl) ?_
  go_wp2_with fail
  refine HC.out.mono ?_
  rintro x w3 ⟨rfl, hb3⟩
  have HX3 := Lib.hid (block_below HX2.out hb3)
  have HB3 := Lib.hid (HB2.out.trans (hb3.mono HB2.out.size))
  clear hb3 HX2 HB2 HC
  cases ok
  · go_wp2
    go_ret
    exact ⟨rfl, HB3.out⟩
  have HTY := Lib.hid (HTT.out (HOK.out rfl))
  clear HOK HTT HZD HRD
  have HFL : Hid (∀ W, Calls Tryz.prog 7 #[.iface u z] W fun x w' => ∃ q, x = .returned (.tuple #[.agg (m.flat q), .bool true]) ∧ w'.heap[q]? = some (.cells (intsA m.nums) 3 (0, 0)) ∧ Below W.heap.size W w' ∧ W.heap.size ≤ q) := Lib.hid fun W => by rw [← HV.out]; exact flat_at m W w HM.out.reads
  go_wp2_with fail
  refine (HFL.out w3).mono ?_
  rintro x w9 ⟨q1, rfl, hq1, hb9, -⟩
  obtain ⟨xk, xa1, xb1, xc1, xa2, xb2, xc2, xa3, xb3, xc3, xa4, xb4, xc4, xa5, xb5, xc5, xa6, xb6, xc6, xa7, xb7, xc7, xs1, xn1, xn2, xn3, xa8, xb8, xc8, xs2, hfx⟩ := flat_form m q1 w HM.out.reads
  have HFX := Lib.hid hfx
  rw [hfx]
  have HQ8 := Lib.hid hq1
  have HX8 := Lib.hid (block_below HX3.out hb9)
  have HB9 := Lib.hid (HB3.out.trans (hb9.mono HB3.out.size))
  clear hfx hq1 hb9 HFL HB3 HX3
  have HZ1 : Hid ((w9.alloc (.cells #[.int .i64 xk, .slice xa1 xb1 xc1, .slice xa2 xb2 xc2, .slice xa3 xb3 xc3, .slice xa4 xb4 xc4, .slice xa5 xb5 xc5, .slice xa6 xb6 xc6, .slice xa7 xb7 xc7, .string xs1, .int .i64 xn1, .int .i64 xn2, .int .i64 xn3, .slice xa8 xb8 xc8, .string xs2] 37)).heap[w9.heap.size]? = some (.cells #[.int .i64 xk, .slice xa1 xb1 xc1, .slice xa2 xb2 xc2, .slice xa3 xb3 xc3, .slice xa4 xb4 xc4, .slice xa5 xb5 xc5, .slice xa6 xb6 xc6, .slice xa7 xb7 xc7, .string xs1, .int .i64 xn1, .int .i64 xn2, .int .i64 xn3, .slice xa8 xb8 xc8, .string xs2] 37 (0, 0))) := Lib.hid (new_at (w := w9) rfl)
  have HQ9 := Lib.hid (below_alloc_block HQ8.out (.cells #[.int .i64 xk, .slice xa1 xb1 xc1, .slice xa2 xb2 xc2, .slice xa3 xb3 xc3, .slice xa4 xb4 xc4, .slice xa5 xb5 xc5, .slice xa6 xb6 xc6, .slice xa7 xb7 xc7, .string xs1, .int .i64 xn1, .int .i64 xn2, .int .i64 xn3, .slice xa8 xb8 xc8, .string xs2] 37))
  have HX9 := Lib.hid (below_alloc_block HX8.out (.cells #[.int .i64 xk, .slice xa1 xb1 xc1, .slice xa2 xb2 xc2, .slice xa3 xb3 xc3, .slice xa4 xb4 xc4, .slice xa5 xb5 xc5, .slice xa6 xb6 xc6, .slice xa7 xb7 xc7, .string xs1, .int .i64 xn1, .int .i64 xn2, .int .i64 xn3, .slice xa8 xb8 xc8, .string xs2] 37))
  have HBZ := Lib.hid (HB9.out.alloc HB9.out.size (.cells #[.int .i64 xk, .slice xa1 xb1 xc1, .slice xa2 xb2 xc2, .slice xa3 xb3 xc3, .slice xa4 xb4 xc4, .slice xa5 xb5 xc5, .slice xa6 xb6 xc6, .slice xa7 xb7 xc7, .string xs1, .int .i64 xn1, .int .i64 xn2, .int .i64 xn3, .slice xa8 xb8 xc8, .string xs2] 37))
  clear HQ8 HX8 HB9
  go_upto_region 7 with (fail)
  generalize w9.alloc (.cells #[.int .i64 xk, .slice xa1 xb1 xc1, .slice xa2 xb2 xc2, .slice xa3 xb3 xc3, .slice xa4 xb4 xc4, .slice xa5 xb5 xc5, .slice xa6 xb6 xc6, .slice xa7 xb7 xc7, .string xs1, .int .i64 xn1, .int .i64 xn2, .int .i64 xn3, .slice xa8 xb8 xc8, .string xs2] 37) = W at HZ1 HQ9 HX9 HBZ ⊢
  obtain ⟨rt, HRT⟩ : ∃ rt, Hid (m.right = rt) := ⟨_, Lib.hid rfl⟩
  obtain ⟨s, HS⟩ : ∃ s, Hid (m.out = s) := ⟨_, Lib.hid rfl⟩
  obtain ⟨ep, HEP⟩ : ∃ ep, Hid ((if m.right = true then m.epoch else 0) = ep) := ⟨_, Lib.hid rfl⟩
  have HR : Hid (∀ V, KeptB W V → Calls Tryz.prog 8 #[.iface u z] V fun x w' => x = .returned (.bool rt) ∧ Below V.heap.size V w') := Lib.hid fun V h => by rw [← HV.out]; exact MRight_at m rt V (MV.reads_below HM.out.reads (HBZ.out.trans (h.mono HBZ.out.size))) HRT
  have HP : Hid (∀ V, KeptB W V → Calls Tryz.prog 10 #[.iface u z] V fun x w' => x = .returned (.string (B s)) ∧ Below V.heap.size V w') := Lib.hid fun V h => by rw [← HV.out]; exact MPut_at m s V (MV.reads_below HM.out.reads (HBZ.out.trans (h.mono HBZ.out.size))) HS
  have HE : Hid (∀ V, KeptB W V → Calls Tryz.prog 12 #[.iface u z] V fun x w' => x = .returned (.int .i64 ep) ∧ Below V.heap.size V w') := Lib.hid fun V h => by rw [← HV.out]; exact MEpoch_at m ep V (MV.reads_below HM.out.reads (HBZ.out.trans (h.mono HBZ.out.size))) HEP
  have HFR : Hid (∀ V, KeptB W V → Calls Tryz.prog 9 #[.agg #[.int .i64 xk, .slice xa1 xb1 xc1, .slice xa2 xb2 xc2, .slice xa3 xb3 xc3, .slice xa4 xb4 xc4, .slice xa5 xb5 xc5, .slice xa6 xb6 xc6, .slice xa7 xb7 xc7, .string xs1, .int .i64 xn1, .int .i64 xn2, .int .i64 xn3, .slice xa8 xb8 xc8, .string xs2]] V fun x w' => x = .returned (.bool rt) ∧ Below V.heap.size V w') := Lib.hid fun V h => by
    rw [← HFX.out, ← fl_val]
    exact refRight7_at (m.fl q1) rt V (fl_reads m q1 V (MV.reads_below HM.out.reads (HBZ.out.trans (h.mono HBZ.out.size))) HTY.out (block_below HQ9.out h)) (Lib.hid (by rw [fl_right]; exact HRT.out))
  have HFP : Hid (∀ V, KeptB W V → Calls Tryz.prog 11 #[.agg #[.int .i64 xk, .slice xa1 xb1 xc1, .slice xa2 xb2 xc2, .slice xa3 xb3 xc3, .slice xa4 xb4 xc4, .slice xa5 xb5 xc5, .slice xa6 xb6 xc6, .slice xa7 xb7 xc7, .string xs1, .int .i64 xn1, .int .i64 xn2, .int .i64 xn3, .slice xa8 xb8 xc8, .string xs2]] V fun x w' => x = .returned (.string (B s)) ∧ Below V.heap.size V w') := Lib.hid fun V h => by
    rw [← HFX.out, ← fl_val]
    exact refPut7_at (m.fl q1) s V (fl_reads m q1 V (MV.reads_below HM.out.reads (HBZ.out.trans (h.mono HBZ.out.size))) HTY.out (block_below HQ9.out h)) (fl_cnt m q1) (fun hq => by rw [fl_bytes]; have := bytes_len m (by rw [← fl_right m q1]; exact hq); omega) (Lib.hid (by rw [fl_right, fl_bytes]; exact HS.out))
  have HFE : Hid (∀ V, KeptB W V → Calls Tryz.prog 13 #[.agg #[.int .i64 xk, .slice xa1 xb1 xc1, .slice xa2 xb2 xc2, .slice xa3 xb3 xc3, .slice xa4 xb4 xc4, .slice xa5 xb5 xc5, .slice xa6 xb6 xc6, .slice xa7 xb7 xc7, .string xs1, .int .i64 xn1, .int .i64 xn2, .int .i64 xn3, .slice xa8 xb8 xc8, .string xs2]] V fun x w' => x = .returned (.int .i64 ep) ∧ Below V.heap.size V w') := Lib.hid fun V h => by
    rw [← HFX.out, ← fl_val]
    exact refEpoch7_at (m.fl q1) ep V (fl_reads m q1 V (MV.reads_below HM.out.reads (HBZ.out.trans (h.mono HBZ.out.size))) HTY.out (block_below HQ9.out h)) (fl_cnt m q1) (Lib.hid (by rw [fl_right, fl_ep]; exact HEP.out))
  clear HFX HM HV HTY HRT HS HEP HQ9
  refine wp_region_held_drew (S := fun w' => KeptB W w') (by kernel_rfl) ?_ (fun hHeld => ?_)
  · exact keptB_drew (show KeptB W W from Below.refl _ _)
  refine take_wanted (i := 0) (v := ?_) rfl (by kernel_rfl) (by kernel_rfl) (by kernel_rfl) (fun _ _ _ h => h) (by rfl) ?_ (by assumption) ?_
  rotate_left
  · intro w hSw
    (try dsimp only at hSw)
    go_simp
    (try with_reducible rfl)
  simp only [Act.put, List.setIfInBounds_toArray, List.set_cons_zero, List.set_cons_succ]
  refine take_wanted (i := 1) (v := ?_) rfl (by kernel_rfl) (by kernel_rfl) (by kernel_rfl) (fun _ _ _ h => h) (by rfl) ?_ (by assumption) ?_
  rotate_left
  · intro w hSw
    (try dsimp only at hSw)
    go_simp
    (try with_reducible rfl)
  simp only [Act.put, List.setIfInBounds_toArray, List.set_cons_zero, List.set_cons_succ]
  refine take_wanted (i := 2) (v := ?_) rfl (by kernel_rfl) (by kernel_rfl) (by kernel_rfl) (fun _ _ _ h => h) (by rfl) ?_ (by assumption) ?_
  rotate_left
  · intro w hSw
    (try dsimp only at hSw)
    go_simp
    (try with_reducible rfl)
  simp only [Act.put, List.setIfInBounds_toArray, List.set_cons_zero, List.set_cons_succ]
  refine take_wanted (i := 4) (v := .agg #[.int .i64 xk, .slice xa1 xb1 xc1, .slice xa2 xb2 xc2, .slice xa3 xb3 xc3, .slice xa4 xb4 xc4, .slice xa5 xb5 xc5, .slice xa6 xb6 xc6, .slice xa7 xb7 xc7, .string xs1, .int .i64 xn1, .int .i64 xn2, .int .i64 xn3, .slice xa8 xb8 xc8, .string xs2]) rfl (by kernel_rfl) (by kernel_rfl) (by kernel_rfl) (fun _ _ _ h => h) (by rfl) (fun w' hSw => exec_load_row 37 (.tmp 6) rfl w9.heap.size rfl 37 #[.int .i64 xk, .slice xa1 xb1 xc1, .slice xa2 xb2 xc2, .slice xa3 xb3 xc3, .slice xa4 xb4 xc4, .slice xa5 xb5 xc5, .slice xa6 xb6 xc6, .slice xa7 xb7 xc7, .string xs1, .int .i64 xn1, .int .i64 xn2, .int .i64 xn3, .slice xa8 xb8 xc8, .string xs2] (0, 0) _ (block_below HZ1.out hSw) Tryz.underlying37 rfl (by kernel_rfl)) (by assumption) ?_
  simp only [Act.put, List.setIfInBounds_toArray, List.set_cons_zero, List.set_cons_succ]
  refine take_only (i := 3) (by kernel_rfl) rfl (by rfl) (fun K hK => ?_)
  go_simp
  go_at_call 8
  refine (HR.out _ hHeld).mono ?_
  rintro x v1 ⟨rfl, hv1⟩
  refine hK.out _ _ ?_ (fun hHeld => ?_)
  · exact keptB_call hHeld hv1
  clear hK K
  refine take_only (i := 5) (by kernel_rfl) rfl (by rfl) (fun K hK => ?_)
  go_simp
  go_at_call 9
  refine (HFR.out _ hHeld).mono ?_
  rintro x v2 ⟨rfl, hv2⟩
  refine hK.out _ _ ?_ (fun hHeld => ?_)
  · exact keptB_call hHeld hv2
  clear hK K
  refine take_wanted (i := 6) (v := ?_) rfl (by kernel_rfl) (by kernel_rfl) (by kernel_rfl) (fun _ _ _ h => h) (by rfl) ?_ (by assumption) ?_
  rotate_left
  · intro w hSw
    (try dsimp only at hSw)
    go_simp
    (try with_reducible rfl)
  simp only [Act.put, List.setIfInBounds_toArray, List.set_cons_zero, List.set_cons_succ]
  refine take_wanted (i := 7) (v := ?_) rfl (by kernel_rfl) (by kernel_rfl) (by kernel_rfl) (fun _ _ _ h => h) (by rfl) ?_ (by assumption) ?_
  rotate_left
  · intro w hSw
    (try dsimp only at hSw)
    go_simp
    (try with_reducible rfl)
  simp only [Act.put, List.setIfInBounds_toArray, List.set_cons_zero, List.set_cons_succ]
  refine take_wanted (i := 8) (v := ?_) rfl (by kernel_rfl) (by kernel_rfl) (by kernel_rfl) (fun _ _ _ h => h) (by rfl) ?_ (by assumption) ?_
  rotate_left
  · intro w hSw
    (try dsimp only at hSw)
    go_simp
    (try with_reducible rfl)
  simp only [Act.put, List.setIfInBounds_toArray, List.set_cons_zero, List.set_cons_succ]
  refine take_wanted (i := 9) (v := ?_) rfl (by kernel_rfl) (by kernel_rfl) (by kernel_rfl) (fun _ _ _ h => h) (by rfl) ?_ (by assumption) ?_
  rotate_left
  · intro w hSw
    (try dsimp only at hSw)
    go_simp
    (try with_reducible rfl)
  simp only [Act.put, List.setIfInBounds_toArray, List.set_cons_zero, List.set_cons_succ]
  refine take_wanted (i := 11) (v := .agg #[.int .i64 xk, .slice xa1 xb1 xc1, .slice xa2 xb2 xc2, .slice xa3 xb3 xc3, .slice xa4 xb4 xc4, .slice xa5 xb5 xc5, .slice xa6 xb6 xc6, .slice xa7 xb7 xc7, .string xs1, .int .i64 xn1, .int .i64 xn2, .int .i64 xn3, .slice xa8 xb8 xc8, .string xs2]) rfl (by kernel_rfl) (by kernel_rfl) (by kernel_rfl) (fun _ _ _ h => h) (by rfl) (fun w' hSw => exec_load_row 37 (.tmp 6) rfl w9.heap.size rfl 37 #[.int .i64 xk, .slice xa1 xb1 xc1, .slice xa2 xb2 xc2, .slice xa3 xb3 xc3, .slice xa4 xb4 xc4, .slice xa5 xb5 xc5, .slice xa6 xb6 xc6, .slice xa7 xb7 xc7, .string xs1, .int .i64 xn1, .int .i64 xn2, .int .i64 xn3, .slice xa8 xb8 xc8, .string xs2] (0, 0) _ (block_below HZ1.out hSw) Tryz.underlying37 rfl (by kernel_rfl)) (by assumption) ?_
  simp only [Act.put, List.setIfInBounds_toArray, List.set_cons_zero, List.set_cons_succ]
  refine take_only (i := 10) (by kernel_rfl) rfl (by rfl) (fun K hK => ?_)
  go_simp
  go_at_call 10
  refine (HP.out _ hHeld).mono ?_
  rintro x v3 ⟨rfl, hv3⟩
  refine hK.out _ _ ?_ (fun hHeld => ?_)
  · exact keptB_call hHeld hv3
  clear hK K
  refine take_only (i := 12) (by kernel_rfl) rfl (by rfl) (fun K hK => ?_)
  go_simp
  go_at_call 11
  refine (HFP.out _ hHeld).mono ?_
  rintro x v4 ⟨rfl, hv4⟩
  refine hK.out _ _ ?_ (fun hHeld => ?_)
  · exact keptB_call hHeld hv4
  clear hK K
  refine take_wanted (i := 13) (v := ?_) rfl (by kernel_rfl) (by kernel_rfl) (by kernel_rfl) (fun _ _ _ h => h) (by rfl) ?_ (by assumption) ?_
  rotate_left
  · intro w hSw
    (try dsimp only at hSw)
    go_simp
    (try with_reducible rfl)
  simp only [Act.put, List.setIfInBounds_toArray, List.set_cons_zero, List.set_cons_succ]
  refine take_wanted (i := 14) (v := ?_) rfl (by kernel_rfl) (by kernel_rfl) (by kernel_rfl) (fun _ _ _ h => h) (by rfl) ?_ (by assumption) ?_
  rotate_left
  · intro w hSw
    (try dsimp only at hSw)
    go_simp
    (try with_reducible rfl)
  simp only [Act.put, List.setIfInBounds_toArray, List.set_cons_zero, List.set_cons_succ]
  refine take_wanted (i := 15) (v := ?_) rfl (by kernel_rfl) (by kernel_rfl) (by kernel_rfl) (fun _ _ _ h => h) (by rfl) ?_ (by assumption) ?_
  rotate_left
  · intro w hSw
    (try dsimp only at hSw)
    go_simp
    (try with_reducible rfl)
  simp only [Act.put, List.setIfInBounds_toArray, List.set_cons_zero, List.set_cons_succ]
  refine take_wanted (i := 16) (v := ?_) rfl (by kernel_rfl) (by kernel_rfl) (by kernel_rfl) (fun _ _ _ h => h) (by rfl) ?_ (by assumption) ?_
  rotate_left
  · intro w hSw
    (try dsimp only at hSw)
    go_simp
    (try with_reducible rfl)
  simp only [Act.put, List.setIfInBounds_toArray, List.set_cons_zero, List.set_cons_succ]
  refine take_wanted (i := 18) (v := .agg #[.int .i64 xk, .slice xa1 xb1 xc1, .slice xa2 xb2 xc2, .slice xa3 xb3 xc3, .slice xa4 xb4 xc4, .slice xa5 xb5 xc5, .slice xa6 xb6 xc6, .slice xa7 xb7 xc7, .string xs1, .int .i64 xn1, .int .i64 xn2, .int .i64 xn3, .slice xa8 xb8 xc8, .string xs2]) rfl (by kernel_rfl) (by kernel_rfl) (by kernel_rfl) (fun _ _ _ h => h) (by rfl) (fun w' hSw => exec_load_row 37 (.tmp 6) rfl w9.heap.size rfl 37 #[.int .i64 xk, .slice xa1 xb1 xc1, .slice xa2 xb2 xc2, .slice xa3 xb3 xc3, .slice xa4 xb4 xc4, .slice xa5 xb5 xc5, .slice xa6 xb6 xc6, .slice xa7 xb7 xc7, .string xs1, .int .i64 xn1, .int .i64 xn2, .int .i64 xn3, .slice xa8 xb8 xc8, .string xs2] (0, 0) _ (block_below HZ1.out hSw) Tryz.underlying37 rfl (by kernel_rfl)) (by assumption) ?_
  simp only [Act.put, List.setIfInBounds_toArray, List.set_cons_zero, List.set_cons_succ]
  refine take_only (i := 17) (by kernel_rfl) rfl (by rfl) (fun K hK => ?_)
  go_simp
  go_at_call 12
  refine (HE.out _ hHeld).mono ?_
  rintro x v5 ⟨rfl, hv5⟩
  refine hK.out _ _ ?_ (fun hHeld => ?_)
  · exact keptB_call hHeld hv5
  clear hK K
  refine take_only (i := 19) (by kernel_rfl) rfl (by rfl) (fun K hK => ?_)
  go_simp
  go_at_call 13
  refine (HFE.out _ hHeld).mono ?_
  rintro x v6 ⟨rfl, hv6⟩
  refine hK.out _ _ ?_ (fun hHeld => ?_)
  · exact keptB_call hHeld hv6
  clear hK K
  refine take_wanted (i := 20) (v := ?_) rfl (by kernel_rfl) (by kernel_rfl) (by kernel_rfl) (fun _ _ _ h => h) (by rfl) ?_ (by assumption) ?_
  rotate_left
  · intro w hSw
    (try dsimp only at hSw)
    go_simp
    (try with_reducible rfl)
  simp only [Act.put, List.setIfInBounds_toArray, List.set_cons_zero, List.set_cons_succ]
  refine take_wanted (i := 21) (v := ?_) rfl (by kernel_rfl) (by kernel_rfl) (by kernel_rfl) (fun _ _ _ h => h) (by rfl) ?_ (by assumption) ?_
  rotate_left
  · intro w hSw
    (try dsimp only at hSw)
    go_simp
    (try with_reducible rfl)
  simp only [Act.put, List.setIfInBounds_toArray, List.set_cons_zero, List.set_cons_succ]
  refine take_wanted (i := 22) (v := ?_) rfl (by kernel_rfl) (by kernel_rfl) (by kernel_rfl) (fun _ _ _ h => h) (by rfl) ?_ (by assumption) ?_
  rotate_left
  · intro w hSw
    (try dsimp only at hSw)
    go_simp
    (try with_reducible rfl)
  simp only [Act.put, List.setIfInBounds_toArray, List.set_cons_zero, List.set_cons_succ]
  refine take_wanted (i := 23) (v := ?_) rfl (by kernel_rfl) (by kernel_rfl) (by kernel_rfl) (fun _ _ _ h => h) (by rfl) ?_ (by assumption) ?_
  rotate_left
  · intro w hSw
    (try dsimp only at hSw)
    go_simp
    (try with_reducible rfl)
  simp only [Act.put, List.setIfInBounds_toArray, List.set_cons_zero, List.set_cons_succ]
  refine take_wanted (i := 25) (v := ?_) rfl (by kernel_rfl) (by kernel_rfl) (by kernel_rfl) (fun _ _ _ h => h) (by rfl) ?_ (by assumption) ?_
  rotate_left
  · intro w hSw
    (try dsimp only at hSw)
    go_simp
    (try with_reducible rfl)
  simp only [Act.put, List.setIfInBounds_toArray, List.set_cons_zero, List.set_cons_succ]
  refine take_wanted (i := 26) (v := .int .i64 dkind) rfl (by kernel_rfl) (by kernel_rfl) (by kernel_rfl) (fun _ _ _ h => h) (by rfl) ?_ (by assumption) ?_
  · intro w' hSw
    have q0 : w'.cell? ⟨w.heap.size, 0, none⟩ = some (.int .i64 dkind) := block_cell (block_below HX9.out hSw) 0
    go_simp
  simp only [Act.put, List.setIfInBounds_toArray, List.set_cons_zero, List.set_cons_succ]
  refine take_only (i := 24) (by kernel_rfl) rfl (by rfl) (fun K hK => ?_)
  go_simp
  refine (HKF.out _).mono ?_
  rintro x v7 ⟨rfl, hv7⟩
  refine hK.out _ _ ?_ (fun hHeld => ?_)
  · exact keptB_call hHeld hv7
  clear hK K
  refine take_wanted (i := 27) (v := ?_) rfl (by kernel_rfl) (by kernel_rfl) (by kernel_rfl) (fun _ _ _ h => h) (by rfl) ?_ (by assumption) ?_
  rotate_left
  · intro w hSw
    (try dsimp only at hSw)
    go_simp
    (try with_reducible rfl)
  simp only [Act.put, List.setIfInBounds_toArray, List.set_cons_zero, List.set_cons_succ]
  refine take_wanted (i := 28) (v := ?_) rfl (by kernel_rfl) (by kernel_rfl) (by kernel_rfl) (fun _ _ _ h => h) (by rfl) ?_ (by assumption) ?_
  rotate_left
  · intro w hSw
    (try dsimp only at hSw)
    go_simp
    (try with_reducible rfl)
  simp only [Act.put, List.setIfInBounds_toArray, List.set_cons_zero, List.set_cons_succ]
  refine take_wanted (i := 29) (v := ?_) rfl (by kernel_rfl) (by kernel_rfl) (by kernel_rfl) (fun _ _ _ h => h) (by rfl) ?_ (by assumption) ?_
  rotate_left
  · intro w hSw
    (try dsimp only at hSw)
    go_simp
    (try with_reducible rfl)
  simp only [Act.put, List.setIfInBounds_toArray, List.set_cons_zero, List.set_cons_succ]
  refine wpAnyH_done (by kernel_rfl) ?_ _
  have HBY := Lib.hid (HBZ.out.trans (Below.mono hHeld HBZ.out.size))
  clear hHeld
  go_wp2
  go_ret
  exact ⟨rfl, HBY.out⟩
theorem messagePuts_walk (d : Dr) (w : World) (hr : d.Reads w) (hz : d.Sized) :
    Calls Tryz.prog 3 #[d.val] w fun r w' => r = .returned (.bool true) ∧ Below w.heap.size w w' := by
  cases hm : d.msg with
  | none => exact puts_none d w hr hz hm
  | some m => exact puts_some d w hr hz m hm

set_option maxRecDepth 100000 in
theorem messagePuts_lifted (os : Os) (started : os.Started) (H : Type) (enc : TypeId × Value → H) :
    ReturnsInHanded {} Tryz.checked os 3 .any (Rows.messagePutsSpec.pre6 enc Tryz.prog Tryz.f3 Rows.messagePutsRow.domain false) (Rows.messagePutsSpec.post enc Tryz.prog Tryz.f3 false true false false) := by
  refine returnsInHanded_of_change_sized (C := Tryz.checked) messagePuts_own started (by kernel_rfl) Tryz.func3
    (ChangeSpec.witness6 (enc := enc) (C := Tryz.checked) false ⟨#[], #[.agg #[.int .i64 0, .int .i64 0, .int .i64 0, .int .i64 0, .int .i64 0, .int .i64 0, .int .i64 0, .slice none 0 0, .slice none 0 0, .slice none 0 0, .slice none 0 0, .slice none 0 0, .slice none 0 0, .string ByteArray.empty, .int .i64 0, .int .i64 0, .int .i64 0, .slice none 0 0, .string ByteArray.empty]], []⟩ 8 (by kernel_rfl) (by kernel_rfl) (by kernel_rfl) (by kernel_rfl)) ?_
  intro W base args ds gs before hval0 hW _ hszA _
  have hval : ∀ (j : Nat) t v, Tryz.f3.params[j]? = some t → args[j]? = some v → Value.okWide Tryz.prog W .any base t v := hval0
  have hW' := hW
  obtain ⟨p, q, hA0, hV, rfl, hfz, hnd⟩ := hW
  have hA : DataW.TrodAll enc Tryz.prog W 0 (fun _ => true) true Tryz.f3.params.toList args.toList ds p := hA0
  rw [Tryz.params3] at hA hval
  obtain ⟨v0, vs0, d0, ds0, p0, q0, hargs, rfl, rfl, h0, r0⟩ := trodAll_cons hA
  obtain ⟨rfl, rfl, rfl⟩ := trodAll_nil r0
  obtain rfl : args = #[v0] := by cases args; simp_all
  obtain ⟨rfl, rfl⟩ := trodVars_none hV
  have k0 := h0
  have lt0 : ∀ x ∈ p0, x.block < W.heap.size := by obtain ⟨m, hm⟩ := k0; exact DataW.trod_lt m _ _ _ hm
  have hsz0 : Wt Tryz.prog 30 d0 := fun n hn => by
    have h2 := List.all_eq_true.1 hszA n (DataW.weights_mem_each (j := 0) (t := 30) (d := d0) rfl rfl n hn)
    have h3 : n ≤ reachBytes := of_decide_eq_true h2
    exact h3
  obtain ⟨dr0, rfl, w0, g0⟩ := arg_drawW (hval 0 30 v0 rfl rfl) h0 hsz0
  clear hA0 hval0 hszA
  refine (messagePuts_walk dr0 W w0 g0).mono fun e W' ⟨he, bel⟩ => ?_
  subst he
  exact ⟨_, rfl, _, _, _, [], _, [], hW', trodAll_mk1 (shut_bool Tryz.underlying4 _), (trodAll_cons_mk (Below.trod messagePuts_laid (by kernel_rfl) (of_decide_eq_true (by kernel_rfl)) k0 bel lt0) trodAll_mk0), rfl, bel.frame _, fun h => by cases h⟩

theorem messagePuts_holds : Rows.MessagePutsSaid :=
  OpenClaim.holds_of_wide 3 Tryz.f3 rfl rfl rfl rfl rfl rfl rfl ⟨rfl, rfl, rfl, rfl, rfl⟩ rfl rfl rfl rfl rfl (by kernel_rfl) Tryz.func3 (by kernel_rfl)
    (of_decide_eq_true (by kernel_rfl)) (by unfold Func.isWrapper; first | (rw [if_pos (by decide +kernel)]; kernel_rfl) | (rw [if_neg (by decide +kernel)]; exact ⟨rfl, rfl⟩))
    (fun os started H enc _ => messagePuts_lifted os started H enc)
#print axioms messagePuts_holds

end Go.Proofs.YtljcgpdjhjkciaaGreat
