/-
  A message as the document's answer has it: its shape, whether it is right.
-/
import Derived.Test.YtljcgpdjhjkciaaGreatRecordPutRow
import Derived.Test.YtljcgpdjhjkciaaGreatMessageSpec
import Derived.Test.YtljcgpdjhjkciaaGreatMsgKinds
import Derived.Deep.RegionHeld3
namespace Go.Proofs.YtljcgpdjhjkciaaGreat
open Go.RowKit
attribute [local go_sem] ext_Bd ext_Bl ext_Bt toList_B add_B size_B get_Bt

/-- A slice of numbers that reads as a list. -/
def ReadsJ (w : World) (v : Value) (zs : List Int) : Prop :=
  ∃ a cap, v = .slice a zs.length cap ∧ ∀ i (h : i < zs.length), ∃ b off, a = some ⟨b, off, none⟩ ∧ w.cell? ⟨b, off + i, none⟩ = some (.int .i64 zs[i])
theorem readsJ_below {w w' : World} {v : Value} {zs : List Int} (h : ReadsJ w v zs) (hb : Below w.heap.size w w') : ReadsJ w' v zs := by
  obtain ⟨a, cap, h1, hx⟩ := h
  refine ⟨a, cap, h1, fun i hi => ?_⟩
  obtain ⟨b, off, e, c⟩ := hx i hi
  exact ⟨b, off, e, below_keeps hb _ _ c⟩
theorem readsJ_I {w : World} {v : Value} {zs : List Int} (h : ReadsI w v zs) : ReadsJ w v zs := by
  obtain ⟨a, cap, h1, hx⟩ := h
  refine ⟨a, cap, h1, fun i hi => ?_⟩
  obtain ⟨_, b, off, e, c⟩ := hx i hi
  exact ⟨b, off, e, c⟩
/-- The letters of a kind. -/
def shapeT (k : Int) : List UInt8 :=
  if k = 1 then [110, 110, 110] else if k = 2 then [110, 110] else if k = 3 then [110, 110] else if k = 4 then [110, 99, 100, 111] else if k = 5 then [110] else if k = 6 then [110, 110, 110, 109] else if k = 7 then [110, 110, 110, 110, 110, 110, 101] else if k = 8 then [110, 110, 110] else if k = 9 then [110, 110, 110, 110] else if k = 10 then [110, 110, 110, 110] else if k = 11 then [110, 98] else if k = 12 then [110, 115, 110] else if k = 13 then [110, 110, 110, 110, 110, 110] else if k = 14 then [110, 110, 110, 118] else []
theorem shapeT_no {k : Int} (h : k < 1 ∨ 15 ≤ k) : shapeT k = [] := by
  unfold shapeT
  rw [if_neg (show ¬ k = 1 by omega)]; rw [if_neg (show ¬ k = 2 by omega)]; rw [if_neg (show ¬ k = 3 by omega)]; rw [if_neg (show ¬ k = 4 by omega)]; rw [if_neg (show ¬ k = 5 by omega)]; rw [if_neg (show ¬ k = 6 by omega)]; rw [if_neg (show ¬ k = 7 by omega)]; rw [if_neg (show ¬ k = 8 by omega)]; rw [if_neg (show ¬ k = 9 by omega)]; rw [if_neg (show ¬ k = 10 by omega)]; rw [if_neg (show ¬ k = 11 by omega)]; rw [if_neg (show ¬ k = 12 by omega)]; rw [if_neg (show ¬ k = 13 by omega)]; rw [if_neg (show ¬ k = 14 by omega)]
theorem kind_cases {k : Int} (h1 : 1 ≤ k) (h2 : k < 15) : k = 1 ∨ k = 2 ∨ k = 3 ∨ k = 4 ∨ k = 5 ∨ k = 6 ∨ k = 7 ∨ k = 8 ∨ k = 9 ∨ k = 10 ∨ k = 11 ∨ k = 12 ∨ k = 13 ∨ k = 14 := by omega
set_option maxHeartbeats 4000000 in
set_option maxRecDepth 100000 in
theorem shape_at (k : Int) (s : List UInt8) (w : World) (H : Hid (shapeT k = s)) :
    Calls Tryz.prog 15 #[.int .i64 k] w fun x w' => x = .returned (.string (B s)) ∧ Below w.heap.size w w' := by
  have hB : ∀ o, Below w.heap.size w (w.alloc o) := fun o => (Below.refl _ w).alloc (Nat.le_refl _) o
  by_cases h1 : k < 1
  · obtain rfl : s = [] := by rw [← H.out]; exact shapeT_no (.inl h1)
    go_enter Tryz.func15, Tryz.ntmps15
    go_wp2
    go_ret
    exact ⟨rfl, hB _⟩
  by_cases h2 : 15 ≤ k
  · obtain rfl : s = [] := by rw [← H.out]; exact shapeT_no (.inr h2)
    go_enter Tryz.func15, Tryz.ntmps15
    go_wp2
    go_ret
    exact ⟨rfl, hB _⟩
  have hc := kind_cases (k := k) (by omega) (by omega)
  clear h1 h2
  rcases hc with rfl | rfl | rfl | rfl | rfl | rfl | rfl | rfl | rfl | rfl | rfl | rfl | rfl | rfl
  all_goals
    have hs := H.out
    clear H
    simp [shapeT] at hs
    subst hs
    go_enter Tryz.func15, Tryz.ntmps15
    go_wp2
    go_ret
    exact ⟨rfl, hB _⟩
theorem numR_parts (z : Int) : M.numR z = (decide (0 ≤ z) && decide (z ≤ 274877906944)) := rfl
set_option maxHeartbeats 1000000 in
set_option maxRecDepth 100000 in
theorem number_at (z : Int) (r : Bool) (w : World) (H : Hid (M.numR z = r)) :
    Calls Tryz.prog 16 #[.int .i64 z] w fun x w' => x = .returned (.bool r) ∧ Below w.heap.size w w' := by
  have HN := Lib.hid (show r = (decide (0 ≤ z) && decide (z ≤ 274877906944)) by rw [← H.out]; rfl)
  clear H
  by_cases h1 : 0 ≤ z
  · by_cases h2 : z ≤ 274877906944
    · have HE := Lib.hid (show r = true by rw [HN.out, decide_eq_true h1, decide_eq_true h2]; rfl)
      go_enter Tryz.func16, Tryz.ntmps16
      go_wp2
      go_ret
      rw [HE.out]
      exact ⟨rfl, Below.refl _ _⟩
    · have HE := Lib.hid (show r = false by rw [HN.out, decide_eq_false h2, Bool.and_false])
      have h2d : decide (z ≤ 274877906944) = false := decide_eq_false h2
      clear h2
      go_enter Tryz.func16, Tryz.ntmps16
      go_wp2
      go_ret
      rw [HE.out]
      exact ⟨rfl, Below.refl _ _⟩
  · have HE := Lib.hid (show r = false by rw [HN.out, decide_eq_false h1]; rfl)
    have h1d : decide (0 ≤ z) = false := decide_eq_false h1
    clear h1
    go_enter Tryz.func16, Tryz.ntmps16
    go_wp2
    go_ret
    rw [HE.out]
    exact ⟨rfl, Below.refl _ _⟩
/-- A message as the reference has it: its parts, and the values that hold them. -/
structure Fl where
  kind : Int
  ns : List Int
  ch : List Int
  si : List Int
  bo : List Int
  ma : List R.Mk
  en : List EV
  ev : List E.Ev
  bt : E.Bat
  st : List UInt8
  vn : Value
  vc : Value
  vs : Value
  vb : Value
  vm : Value
  ve : Value
  vv : Value
  vt : Value
abbrev Fl.val (f : Fl) : Value := .agg #[.int .i64 f.kind, f.vn, f.vc, f.vs, f.vb, f.vm, f.ve, f.vv, .string (B f.bt.stream), .int .i64 f.bt.expect, .int .i64 f.bt.session, .int .i64 f.bt.seq, f.vt, .string (B f.st)]
structure Fl.Reads (w : World) (f : Fl) : Prop where
  ns : ReadsJ w f.vn f.ns
  ch : ReadsJ w f.vc f.ch
  si : ReadsJ w f.vs f.si
  bo : ReadsJ w f.vb f.bo
  ma : ReadsM w f.vm f.ma
  en : ReadsR w f.ve f.en
  ev : ReadsE w f.vv f.ev
  bt : ReadsE w f.vt f.bt.events
  ln : f.ns.length ≤ 6
  ten : ∀ q ∈ f.en, E.Tiny q.1.b
  tev : ∀ e ∈ f.ev, e.1.length ≤ 1000000
  tbt : E.Tiny f.bt
  tst : f.st.length ≤ 1000000
theorem Fl.Reads.below {w w' : World} {f : Fl} (h : f.Reads w) (hb : Below w.heap.size w w') : f.Reads w' :=
  ⟨readsJ_below h.ns hb, readsJ_below h.ch hb, readsJ_below h.si hb, readsJ_below h.bo hb, readsM_below h.ma hb, readsR_below h.en hb, readsE_below h.ev hb, readsE_below h.bt hb, h.ln, h.ten, h.tev, h.tbt, h.tst⟩
def mkR (m : R.Mk) : Bool := M.numR m.1 && M.numR m.2
def lastT (kind : Int) (st : List UInt8) (bt : E.Bat) : Bool := if kind = 12 then nameL st else if kind = 11 then decide (E.fits bt = 0) else true
def tests (kind : Int) (ns ch si bo : List Int) (ma : List R.Mk) (en : List R.En) (ev : List E.Ev) (bt : E.Bat) (st : List UInt8) : List Bool :=
  [decide (1 ≤ kind ∧ kind < 15), decide (ch.length ≤ 6), decide (si.length ≤ 6), decide (bo.length ≤ 6), decide (ma.length ≤ 30), decide (en.length ≤ 8), decide (ev.length ≤ 16), ns.all M.numR, ch.all M.numR, si.all M.numR, bo.all M.numR, ma.all mkR, en.all R.right, ev.all E.right, lastT kind st bt]
def Fl.right (f : Fl) : Bool := (tests f.kind f.ns f.ch f.si f.bo f.ma (ensOf f.en) f.ev f.bt f.st).all id
theorem all_next {α : Type} {p : α → Bool} {l : List α} {k : Nat} (h : k < l.length) (ha : (l.take k).all p = true) (hn : p l[k] = true) : (l.take (k + 1)).all p = true := by
  rw [List.take_succ_eq_append_getElem h, List.all_append, ha]; simp [hn]
theorem all_no {α : Type} {p : α → Bool} {l : List α} {k : Nat} (h : k < l.length) (hn : p l[k] = false) : l.all p = false := by
  rw [List.all_eq_false]
  exact ⟨l[k], List.getElem_mem h, by simp [hn]⟩
theorem all_end {α : Type} {p : α → Bool} {l : List α} {k : Nat} (h : ¬ k < l.length) (ha : (l.take k).all p = true) : l.all p = true := by
  rw [List.take_of_length_le (by omega)] at ha; exact ha

set_option maxHeartbeats 16000000 in
set_option maxRecDepth 100000 in
theorem refRight7_l (f : Fl) (w : World) (hr : f.Reads w) :
    Calls Tryz.prog 9 #[f.val] w fun x w' => x = .returned (.bool f.right) ∧ Below w.heap.size w w' := by
  obtain ⟨kind, ns, ch, si, bo, ma, en, ev, ⟨bst, bex, bse, bsq, bev⟩, st, vn, vc, vs, vb, vm, ve, vv, vt⟩ := f
  obtain ⟨hns, hch, hsi, hbo, hma, hen, hev, hbt, hln, hten, htev, htbt, htst⟩ := hr
  dsimp only at hns hch hsi hbo hma hen hev hbt hln hten htev htbt htst ⊢
  obtain ⟨r, HR⟩ : ∃ r, Hid ((tests kind ns ch si bo ma (ensOf en) ev ⟨bst, bex, bse, bsq, bev⟩ st).all id = r) := ⟨_, Lib.hid rfl⟩
  show Calls Tryz.prog 9 _ w fun x w' => x = .returned (.bool ((tests kind ns ch si bo ma (ensOf en) ev ⟨bst, bex, bse, bsq, bev⟩ st).all id)) ∧ Below w.heap.size w w'
  rw [HR.out]
  have HF : Hid (∀ t ∈ tests kind ns ch si bo ma (ensOf en) ev ⟨bst, bex, bse, bsq, bev⟩ st, t = false → r = false) := Lib.hid fun t ht h => by
    rw [← HR.out, List.all_eq_false]
    exact ⟨t, ht, by simp [h]⟩
  have HBT := Lib.hid hbt
  have HTBT := Lib.hid htbt
  have HTST := Lib.hid htst
  have HTEN := Lib.hid hten
  have HTEV := Lib.hid htev
  clear hten htev htbt htst
  obtain ⟨an, cn, rfl, hx⟩ := hns
  have HXn := Lib.hid hx
  clear hx
  obtain ⟨ac, cc, rfl, hx⟩ := hch
  have HXc := Lib.hid hx
  clear hx
  obtain ⟨ai, ci, rfl, hx⟩ := hsi
  have HXi := Lib.hid hx
  clear hx
  obtain ⟨ab, cb, rfl, hx⟩ := hbo
  have HXb := Lib.hid hx
  clear hx
  obtain ⟨am, cm, rfl, -, -, hx⟩ := hma
  have HXm := Lib.hid hx
  clear hx
  obtain ⟨ae, ce, rfl, -, -, hx⟩ := hen
  have HXe := Lib.hid hx
  clear hx
  obtain ⟨av, cv, rfl, -, -, hx⟩ := hev
  have HXv := Lib.hid hx
  clear hx
  obtain ⟨at_, ct, rfl, -⟩ := hbt
  obtain ⟨sh, HSH⟩ : ∃ sh, Hid (shapeT kind = sh) := ⟨_, Lib.hid rfl⟩
  by_cases hk : ¬ (1 ≤ kind ∧ kind < 15)
  · have HE := Lib.hid (HF.out _ (List.mem_cons_self) (decide_eq_false hk))
    obtain rfl : sh = [] := by rw [← HSH.out]; exact shapeT_no (by omega)
    clear hk
    go_enter Tryz.func9, Tryz.ntmps9
    go_wp2_with fail
    refine (shape_at kind [] _ HSH).mono ?_
    rintro x W ⟨rfl, hb1⟩
    have HC : Hid (∀ j, W.cell? ⟨w.heap.size, j, none⟩ = #[.int .i64 kind, .slice an ns.length cn, .slice ac ch.length cc, .slice ai si.length ci, .slice ab bo.length cb, .slice am ma.length cm, .slice ae en.length ce, .slice av ev.length cv, .string (B bst), .int .i64 bex, .int .i64 bse, .int .i64 bsq, .slice at_ bev.length ct, .string (B st)][j]?) := Lib.hid fun j => box_at hb1 j
    have HB := Lib.hid (below_box hb1)
    clear hb1
    go_wp2
    go_ret
    rw [HE.out]
    exact ⟨rfl, HB.out⟩
  replace hk := Decidable.of_not_not hk
  have hsn : (sh == []) = false := by
    rw [← HSH.out]
    rcases kind_cases hk.1 hk.2 with rfl | rfl | rfl | rfl | rfl | rfl | rfl | rfl | rfl | rfl | rfl | rfl | rfl | rfl <;> rfl
  by_cases t0 : 6 < ch.length
  · have HE := Lib.hid (HF.out (decide (ch.length ≤ 6)) (by simp [tests]) (decide_eq_false (by omega)))
    have q0 : (6 : Int) < (ch.length : Int) := by omega
    go_enter Tryz.func9, Tryz.ntmps9
    go_wp2_with fail
    refine (shape_at kind sh _ HSH).mono ?_
    rintro x W ⟨rfl, hb1⟩
    have HC : Hid (∀ j, W.cell? ⟨w.heap.size, j, none⟩ = #[.int .i64 kind, .slice an ns.length cn, .slice ac ch.length cc, .slice ai si.length ci, .slice ab bo.length cb, .slice am ma.length cm, .slice ae en.length ce, .slice av ev.length cv, .string (B bst), .int .i64 bex, .int .i64 bse, .int .i64 bsq, .slice at_ bev.length ct, .string (B st)][j]?) := Lib.hid fun j => box_at hb1 j
    have HB := Lib.hid (below_box hb1)
    clear hb1
    have y2 : W.cell? ⟨w.heap.size, 2, none⟩ = some (.slice ac ch.length cc) := (HC.out 2).trans rfl
    go_wp2
    go_ret
    rw [HE.out]
    exact ⟨rfl, HB.out⟩
  have q0 : ¬ (6 : Int) < (ch.length : Int) := by omega
  by_cases t1 : 6 < si.length
  · have HE := Lib.hid (HF.out (decide (si.length ≤ 6)) (by simp [tests]) (decide_eq_false (by omega)))
    have q1 : (6 : Int) < (si.length : Int) := by omega
    go_enter Tryz.func9, Tryz.ntmps9
    go_wp2_with fail
    refine (shape_at kind sh _ HSH).mono ?_
    rintro x W ⟨rfl, hb1⟩
    have HC : Hid (∀ j, W.cell? ⟨w.heap.size, j, none⟩ = #[.int .i64 kind, .slice an ns.length cn, .slice ac ch.length cc, .slice ai si.length ci, .slice ab bo.length cb, .slice am ma.length cm, .slice ae en.length ce, .slice av ev.length cv, .string (B bst), .int .i64 bex, .int .i64 bse, .int .i64 bsq, .slice at_ bev.length ct, .string (B st)][j]?) := Lib.hid fun j => box_at hb1 j
    have HB := Lib.hid (below_box hb1)
    clear hb1
    have y2 : W.cell? ⟨w.heap.size, 2, none⟩ = some (.slice ac ch.length cc) := (HC.out 2).trans rfl
    have y3 : W.cell? ⟨w.heap.size, 3, none⟩ = some (.slice ai si.length ci) := (HC.out 3).trans rfl
    go_wp2
    go_ret
    rw [HE.out]
    exact ⟨rfl, HB.out⟩
  have q1 : ¬ (6 : Int) < (si.length : Int) := by omega
  by_cases t2 : 6 < bo.length
  · have HE := Lib.hid (HF.out (decide (bo.length ≤ 6)) (by simp [tests]) (decide_eq_false (by omega)))
    have q2 : (6 : Int) < (bo.length : Int) := by omega
    go_enter Tryz.func9, Tryz.ntmps9
    go_wp2_with fail
    refine (shape_at kind sh _ HSH).mono ?_
    rintro x W ⟨rfl, hb1⟩
    have HC : Hid (∀ j, W.cell? ⟨w.heap.size, j, none⟩ = #[.int .i64 kind, .slice an ns.length cn, .slice ac ch.length cc, .slice ai si.length ci, .slice ab bo.length cb, .slice am ma.length cm, .slice ae en.length ce, .slice av ev.length cv, .string (B bst), .int .i64 bex, .int .i64 bse, .int .i64 bsq, .slice at_ bev.length ct, .string (B st)][j]?) := Lib.hid fun j => box_at hb1 j
    have HB := Lib.hid (below_box hb1)
    clear hb1
    have y2 : W.cell? ⟨w.heap.size, 2, none⟩ = some (.slice ac ch.length cc) := (HC.out 2).trans rfl
    have y3 : W.cell? ⟨w.heap.size, 3, none⟩ = some (.slice ai si.length ci) := (HC.out 3).trans rfl
    have y4 : W.cell? ⟨w.heap.size, 4, none⟩ = some (.slice ab bo.length cb) := (HC.out 4).trans rfl
    go_wp2
    go_ret
    rw [HE.out]
    exact ⟨rfl, HB.out⟩
  have q2 : ¬ (6 : Int) < (bo.length : Int) := by omega
  by_cases t3 : 30 < ma.length
  · have HE := Lib.hid (HF.out (decide (ma.length ≤ 30)) (by simp [tests]) (decide_eq_false (by omega)))
    have q3 : (30 : Int) < (ma.length : Int) := by omega
    go_enter Tryz.func9, Tryz.ntmps9
    go_wp2_with fail
    refine (shape_at kind sh _ HSH).mono ?_
    rintro x W ⟨rfl, hb1⟩
    have HC : Hid (∀ j, W.cell? ⟨w.heap.size, j, none⟩ = #[.int .i64 kind, .slice an ns.length cn, .slice ac ch.length cc, .slice ai si.length ci, .slice ab bo.length cb, .slice am ma.length cm, .slice ae en.length ce, .slice av ev.length cv, .string (B bst), .int .i64 bex, .int .i64 bse, .int .i64 bsq, .slice at_ bev.length ct, .string (B st)][j]?) := Lib.hid fun j => box_at hb1 j
    have HB := Lib.hid (below_box hb1)
    clear hb1
    have y2 : W.cell? ⟨w.heap.size, 2, none⟩ = some (.slice ac ch.length cc) := (HC.out 2).trans rfl
    have y3 : W.cell? ⟨w.heap.size, 3, none⟩ = some (.slice ai si.length ci) := (HC.out 3).trans rfl
    have y4 : W.cell? ⟨w.heap.size, 4, none⟩ = some (.slice ab bo.length cb) := (HC.out 4).trans rfl
    have y5 : W.cell? ⟨w.heap.size, 5, none⟩ = some (.slice am ma.length cm) := (HC.out 5).trans rfl
    go_wp2
    go_ret
    rw [HE.out]
    exact ⟨rfl, HB.out⟩
  have q3 : ¬ (30 : Int) < (ma.length : Int) := by omega
  by_cases t4 : 8 < en.length
  · have HE := Lib.hid (HF.out (decide ((ensOf en).length ≤ 8)) (by simp [tests]) (decide_eq_false (by rw [ensOf_len]; omega)))
    have q4 : (8 : Int) < (en.length : Int) := by omega
    go_enter Tryz.func9, Tryz.ntmps9
    go_wp2_with fail
    refine (shape_at kind sh _ HSH).mono ?_
    rintro x W ⟨rfl, hb1⟩
    have HC : Hid (∀ j, W.cell? ⟨w.heap.size, j, none⟩ = #[.int .i64 kind, .slice an ns.length cn, .slice ac ch.length cc, .slice ai si.length ci, .slice ab bo.length cb, .slice am ma.length cm, .slice ae en.length ce, .slice av ev.length cv, .string (B bst), .int .i64 bex, .int .i64 bse, .int .i64 bsq, .slice at_ bev.length ct, .string (B st)][j]?) := Lib.hid fun j => box_at hb1 j
    have HB := Lib.hid (below_box hb1)
    clear hb1
    have y2 : W.cell? ⟨w.heap.size, 2, none⟩ = some (.slice ac ch.length cc) := (HC.out 2).trans rfl
    have y3 : W.cell? ⟨w.heap.size, 3, none⟩ = some (.slice ai si.length ci) := (HC.out 3).trans rfl
    have y4 : W.cell? ⟨w.heap.size, 4, none⟩ = some (.slice ab bo.length cb) := (HC.out 4).trans rfl
    have y5 : W.cell? ⟨w.heap.size, 5, none⟩ = some (.slice am ma.length cm) := (HC.out 5).trans rfl
    have y6 : W.cell? ⟨w.heap.size, 6, none⟩ = some (.slice ae en.length ce) := (HC.out 6).trans rfl
    go_wp2
    go_ret
    rw [HE.out]
    exact ⟨rfl, HB.out⟩
  have q4 : ¬ (8 : Int) < (en.length : Int) := by omega
  by_cases t5 : 16 < ev.length
  · have HE := Lib.hid (HF.out (decide (ev.length ≤ 16)) (by simp [tests]) (decide_eq_false (by omega)))
    have q5 : (16 : Int) < (ev.length : Int) := by omega
    go_enter Tryz.func9, Tryz.ntmps9
    go_wp2_with fail
    refine (shape_at kind sh _ HSH).mono ?_
    rintro x W ⟨rfl, hb1⟩
    have HC : Hid (∀ j, W.cell? ⟨w.heap.size, j, none⟩ = #[.int .i64 kind, .slice an ns.length cn, .slice ac ch.length cc, .slice ai si.length ci, .slice ab bo.length cb, .slice am ma.length cm, .slice ae en.length ce, .slice av ev.length cv, .string (B bst), .int .i64 bex, .int .i64 bse, .int .i64 bsq, .slice at_ bev.length ct, .string (B st)][j]?) := Lib.hid fun j => box_at hb1 j
    have HB := Lib.hid (below_box hb1)
    clear hb1
    have y2 : W.cell? ⟨w.heap.size, 2, none⟩ = some (.slice ac ch.length cc) := (HC.out 2).trans rfl
    have y3 : W.cell? ⟨w.heap.size, 3, none⟩ = some (.slice ai si.length ci) := (HC.out 3).trans rfl
    have y4 : W.cell? ⟨w.heap.size, 4, none⟩ = some (.slice ab bo.length cb) := (HC.out 4).trans rfl
    have y5 : W.cell? ⟨w.heap.size, 5, none⟩ = some (.slice am ma.length cm) := (HC.out 5).trans rfl
    have y6 : W.cell? ⟨w.heap.size, 6, none⟩ = some (.slice ae en.length ce) := (HC.out 6).trans rfl
    have y7 : W.cell? ⟨w.heap.size, 7, none⟩ = some (.slice av ev.length cv) := (HC.out 7).trans rfl
    go_wp2
    go_ret
    rw [HE.out]
    exact ⟨rfl, HB.out⟩
  have q5 : ¬ (16 : Int) < (ev.length : Int) := by omega
  go_enter Tryz.func9, Tryz.ntmps9
  go_wp2_with fail
  refine (shape_at kind sh _ HSH).mono ?_
  rintro x W ⟨rfl, hb1⟩
  have HC : Hid (∀ j, W.cell? ⟨w.heap.size, j, none⟩ = #[.int .i64 kind, .slice an ns.length cn, .slice ac ch.length cc, .slice ai si.length ci, .slice ab bo.length cb, .slice am ma.length cm, .slice ae en.length ce, .slice av ev.length cv, .string (B bst), .int .i64 bex, .int .i64 bse, .int .i64 bsq, .slice at_ bev.length ct, .string (B st)][j]?) := Lib.hid fun j => box_at hb1 j
  have HB := Lib.hid (below_box hb1)
  clear hb1
  have y2 : W.cell? ⟨w.heap.size, 2, none⟩ = some (.slice ac ch.length cc) := (HC.out 2).trans rfl
  have y3 : W.cell? ⟨w.heap.size, 3, none⟩ = some (.slice ai si.length ci) := (HC.out 3).trans rfl
  have y4 : W.cell? ⟨w.heap.size, 4, none⟩ = some (.slice ab bo.length cb) := (HC.out 4).trans rfl
  have y5 : W.cell? ⟨w.heap.size, 5, none⟩ = some (.slice am ma.length cm) := (HC.out 5).trans rfl
  have y6 : W.cell? ⟨w.heap.size, 6, none⟩ = some (.slice ae en.length ce) := (HC.out 6).trans rfl
  have y7 : W.cell? ⟨w.heap.size, 7, none⟩ = some (.slice av ev.length cv) := (HC.out 7).trans rfl
  go_wp2
  clear q0 q1 q2 q3 q4 q5 y2 y3 y4 y5 y6 y7 hsn HSH
  go_loopw [4] (fun i wr => ∃ k : Nat, i = .int .i64 k ∧ k ≤ ns.length ∧ (ns.take k).all M.numR = true ∧ Below W.heap.size W wr) (fun i _ => ns.length - (intOf i).toNat)
  case atStart => exact ⟨0, rfl, Nat.zero_le _, by simp, Below.refl _ _⟩
  case round =>
    obtain ⟨k, rfl, hkn, hall, hbw⟩ := hrel
    have HAn := Lib.hid hall
    have HWn := Lib.hid hbw
    clear hall hbw
    have HBWn := Lib.hid (HB.out.trans (HWn.out.mono HB.out.size))
    have y : wr.cell? ⟨w.heap.size, 1, none⟩ = some (.slice an ns.length cn) := below_keeps HWn.out _ _ ((HC.out 1).trans rfl)
    by_cases hlt : k < ns.length
    · have hk1 : (k : Int) < (ns.length : Int) := by omega
      obtain ⟨b1, o1, rfl, g1⟩ := HXn.out k hlt
      have z1 : wr.cell? ⟨b1, o1 + k, none⟩ = some (.int .i64 ns[k]) := below_keeps HBWn.out _ _ g1
      clear g1
      cases hq : M.numR ns[k]
      · have HQ := Lib.hid hq
        have HE := Lib.hid (HF.out (ns.all M.numR) (by simp [tests]) (all_no hlt hq))
        clear hq
        generalize ns[k] = z at z1 HQ
        go_wp2_with fail
        refine (number_at z false _ HQ).mono ?_
        rintro x w2 ⟨rfl, hb2⟩
        have HBX := Lib.hid (HBWn.out.trans (hb2.mono HBWn.out.size))
        clear hb2
        go_wp2
        go_ret
        rw [HE.out]
        exact ⟨rfl, HBX.out⟩
      · have HQ := Lib.hid hq
        have HN := Lib.hid (all_next hlt HAn.out hq)
        clear hq
        generalize ns[k] = z at z1 HQ
        go_wp2_with fail
        refine (number_at z true _ HQ).mono ?_
        rintro x w2 ⟨rfl, hb2⟩
        have HBX := Lib.hid (HWn.out.trans (hb2.mono HWn.out.size))
        clear hb2
        go_wp2
        go_roundw
        case rel => exact ⟨k + 1, by go_num, by omega, HN.out, HBX.out⟩
        case measure => simp [intOf]; omega
    · have hk1 : ¬ (k : Int) < (ns.length : Int) := by omega
      have HLn := Lib.hid (all_end (l := ns) (hlt) HAn.out)
      clear HAn
      go_wp2
      clear hk1 hlt y hkn
      go_loopw [5] (fun i wr => ∃ k : Nat, i = .int .i64 k ∧ k ≤ ch.length ∧ (ch.take k).all M.numR = true ∧ Below W.heap.size W wr) (fun i _ => ch.length - (intOf i).toNat)
      case atStart => exact ⟨0, rfl, Nat.zero_le _, by simp, HWn.out⟩
      case round =>
        obtain ⟨k, rfl, hkc, hall, hbw⟩ := hrel
        have HAc := Lib.hid hall
        have HWc := Lib.hid hbw
        clear hall hbw
        have HBWc := Lib.hid (HB.out.trans (HWc.out.mono HB.out.size))
        have y : wr.cell? ⟨w.heap.size, 2, none⟩ = some (.slice ac ch.length cc) := below_keeps HWc.out _ _ ((HC.out 2).trans rfl)
        by_cases hlt : k < ch.length
        · have hk1 : (k : Int) < (ch.length : Int) := by omega
          obtain ⟨b1, o1, rfl, g1⟩ := HXc.out k hlt
          have z1 : wr.cell? ⟨b1, o1 + k, none⟩ = some (.int .i64 ch[k]) := below_keeps HBWc.out _ _ g1
          clear g1
          cases hq : M.numR ch[k]
          · have HQ := Lib.hid hq
            have HE := Lib.hid (HF.out (ch.all M.numR) (by simp [tests]) (all_no hlt hq))
            clear hq
            generalize ch[k] = z at z1 HQ
            go_wp2_with fail
            refine (number_at z false _ HQ).mono ?_
            rintro x w2 ⟨rfl, hb2⟩
            have HBX := Lib.hid (HBWc.out.trans (hb2.mono HBWc.out.size))
            clear hb2
            go_wp2
            go_ret
            rw [HE.out]
            exact ⟨rfl, HBX.out⟩
          · have HQ := Lib.hid hq
            have HN := Lib.hid (all_next hlt HAc.out hq)
            clear hq
            generalize ch[k] = z at z1 HQ
            go_wp2_with fail
            refine (number_at z true _ HQ).mono ?_
            rintro x w2 ⟨rfl, hb2⟩
            have HBX := Lib.hid (HWc.out.trans (hb2.mono HWc.out.size))
            clear hb2
            go_wp2
            go_roundw
            case rel => exact ⟨k + 1, by go_num, by omega, HN.out, HBX.out⟩
            case measure => simp [intOf]; omega
        · have hk1 : ¬ (k : Int) < (ch.length : Int) := by omega
          have HLc := Lib.hid (all_end (l := ch) (hlt) HAc.out)
          clear HAc
          go_wp2
          clear hk1 hlt y hkc
          go_loopw [6] (fun i wr => ∃ k : Nat, i = .int .i64 k ∧ k ≤ si.length ∧ (si.take k).all M.numR = true ∧ Below W.heap.size W wr) (fun i _ => si.length - (intOf i).toNat)
          case atStart => exact ⟨0, rfl, Nat.zero_le _, by simp, HWc.out⟩
          case round =>
            obtain ⟨k, rfl, hki, hall, hbw⟩ := hrel
            have HAi := Lib.hid hall
            have HWi := Lib.hid hbw
            clear hall hbw
            have HBWi := Lib.hid (HB.out.trans (HWi.out.mono HB.out.size))
            have y : wr.cell? ⟨w.heap.size, 3, none⟩ = some (.slice ai si.length ci) := below_keeps HWi.out _ _ ((HC.out 3).trans rfl)
            by_cases hlt : k < si.length
            · have hk1 : (k : Int) < (si.length : Int) := by omega
              obtain ⟨b1, o1, rfl, g1⟩ := HXi.out k hlt
              have z1 : wr.cell? ⟨b1, o1 + k, none⟩ = some (.int .i64 si[k]) := below_keeps HBWi.out _ _ g1
              clear g1
              cases hq : M.numR si[k]
              · have HQ := Lib.hid hq
                have HE := Lib.hid (HF.out (si.all M.numR) (by simp [tests]) (all_no hlt hq))
                clear hq
                generalize si[k] = z at z1 HQ
                go_wp2_with fail
                refine (number_at z false _ HQ).mono ?_
                rintro x w2 ⟨rfl, hb2⟩
                have HBX := Lib.hid (HBWi.out.trans (hb2.mono HBWi.out.size))
                clear hb2
                go_wp2
                go_ret
                rw [HE.out]
                exact ⟨rfl, HBX.out⟩
              · have HQ := Lib.hid hq
                have HN := Lib.hid (all_next hlt HAi.out hq)
                clear hq
                generalize si[k] = z at z1 HQ
                go_wp2_with fail
                refine (number_at z true _ HQ).mono ?_
                rintro x w2 ⟨rfl, hb2⟩
                have HBX := Lib.hid (HWi.out.trans (hb2.mono HWi.out.size))
                clear hb2
                go_wp2
                go_roundw
                case rel => exact ⟨k + 1, by go_num, by omega, HN.out, HBX.out⟩
                case measure => simp [intOf]; omega
            · have hk1 : ¬ (k : Int) < (si.length : Int) := by omega
              have HLi := Lib.hid (all_end (l := si) (hlt) HAi.out)
              clear HAi
              go_wp2
              clear hk1 hlt y hki
              go_loopw [7] (fun i wr => ∃ k : Nat, i = .int .i64 k ∧ k ≤ bo.length ∧ (bo.take k).all M.numR = true ∧ Below W.heap.size W wr) (fun i _ => bo.length - (intOf i).toNat)
              case atStart => exact ⟨0, rfl, Nat.zero_le _, by simp, HWi.out⟩
              case round =>
                obtain ⟨k, rfl, hkb, hall, hbw⟩ := hrel
                have HAb := Lib.hid hall
                have HWb := Lib.hid hbw
                clear hall hbw
                have HBWb := Lib.hid (HB.out.trans (HWb.out.mono HB.out.size))
                have y : wr.cell? ⟨w.heap.size, 4, none⟩ = some (.slice ab bo.length cb) := below_keeps HWb.out _ _ ((HC.out 4).trans rfl)
                by_cases hlt : k < bo.length
                · have hk1 : (k : Int) < (bo.length : Int) := by omega
                  obtain ⟨b1, o1, rfl, g1⟩ := HXb.out k hlt
                  have z1 : wr.cell? ⟨b1, o1 + k, none⟩ = some (.int .i64 bo[k]) := below_keeps HBWb.out _ _ g1
                  clear g1
                  cases hq : M.numR bo[k]
                  · have HQ := Lib.hid hq
                    have HE := Lib.hid (HF.out (bo.all M.numR) (by simp [tests]) (all_no hlt hq))
                    clear hq
                    generalize bo[k] = z at z1 HQ
                    go_wp2_with fail
                    refine (number_at z false _ HQ).mono ?_
                    rintro x w2 ⟨rfl, hb2⟩
                    have HBX := Lib.hid (HBWb.out.trans (hb2.mono HBWb.out.size))
                    clear hb2
                    go_wp2
                    go_ret
                    rw [HE.out]
                    exact ⟨rfl, HBX.out⟩
                  · have HQ := Lib.hid hq
                    have HN := Lib.hid (all_next hlt HAb.out hq)
                    clear hq
                    generalize bo[k] = z at z1 HQ
                    go_wp2_with fail
                    refine (number_at z true _ HQ).mono ?_
                    rintro x w2 ⟨rfl, hb2⟩
                    have HBX := Lib.hid (HWb.out.trans (hb2.mono HWb.out.size))
                    clear hb2
                    go_wp2
                    go_roundw
                    case rel => exact ⟨k + 1, by go_num, by omega, HN.out, HBX.out⟩
                    case measure => simp [intOf]; omega
                · have hk1 : ¬ (k : Int) < (bo.length : Int) := by omega
                  have HLb := Lib.hid (all_end (l := bo) (hlt) HAb.out)
                  clear HAb
                  go_wp2
                  clear hk1 hlt y hkb
                  go_loopw [8] (fun i wr => ∃ k : Nat, i = .int .i64 k ∧ k ≤ ma.length ∧ (ma.take k).all mkR = true ∧ Below W.heap.size W wr) (fun i _ => ma.length - (intOf i).toNat)
                  case atStart => exact ⟨0, rfl, Nat.zero_le _, by simp, HWb.out⟩
                  case round =>
                    obtain ⟨k, rfl, hkm, hall, hbw⟩ := hrel
                    have HAm := Lib.hid hall
                    have HWm := Lib.hid hbw
                    clear hall hbw
                    have HBWm := Lib.hid (HB.out.trans (HWm.out.mono HB.out.size))
                    have y : wr.cell? ⟨w.heap.size, 5, none⟩ = some (.slice am ma.length cm) := below_keeps HWm.out _ _ ((HC.out 5).trans rfl)
                    by_cases hlt : k < ma.length
                    · have hk1 : (k : Int) < (ma.length : Int) := by omega
                      obtain ⟨b1, o1, rfl, g1, g2⟩ := HXm.out k hlt
                      have z1 : wr.cell? ⟨b1, o1 + k * 2, none⟩ = some (.int .i64 ma[k].1) := below_keeps HBWm.out _ _ g1
                      have z2 : wr.cell? ⟨b1, o1 + k * 2 + 1, none⟩ = some (.int .i64 ma[k].2) := below_keeps HBWm.out _ _ g2
                      clear g1 g2
                      have HNX : Hid (mkR ma[k] = true → (ma.take (k + 1)).all mkR = true) := Lib.hid fun h => all_next hlt HAm.out h
                      have HEX : Hid (mkR ma[k] = false → r = false) := Lib.hid fun h => HF.out (ma.all mkR) (by simp [tests]) (all_no hlt h)
                      generalize ma[k] = z at z1 z2 HNX HEX
                      obtain ⟨u1, u2⟩ := z
                      dsimp only at z1 z2
                      cases hq : M.numR u1
                      · have HQ := Lib.hid hq
                        have HE := Lib.hid (HEX.out (by unfold mkR; rw [hq]; rfl))
                        clear hq
                        go_wp2_with fail
                        refine (number_at u1 false _ HQ).mono ?_
                        rintro x w2 ⟨rfl, hb2⟩
                        have HBX := Lib.hid (HBWm.out.trans (hb2.mono HBWm.out.size))
                        clear hb2
                        go_wp2
                        go_ret
                        rw [HE.out]
                        exact ⟨rfl, HBX.out⟩
                      · have HQ := Lib.hid hq
                        cases hq2 : M.numR u2
                        · have HQ2 := Lib.hid hq2
                          have HE := Lib.hid (HEX.out (by unfold mkR; rw [hq, hq2]; rfl))
                          clear hq hq2
                          go_wp2_with fail
                          refine (number_at u1 true _ HQ).mono ?_
                          rintro x w2 ⟨rfl, hb2⟩
                          have HW2 := Lib.hid (HWm.out.trans (hb2.mono HWm.out.size))
                          have HBW2 := Lib.hid (HBWm.out.trans (hb2.mono HBWm.out.size))
                          have y' := below_keeps hb2 _ _ y
                          have z2' := below_keeps hb2 _ _ z2
                          clear hb2 y z1 z2
                          go_wp2_with fail
                          refine (number_at u2 false _ HQ2).mono ?_
                          rintro x w3 ⟨rfl, hb2⟩
                          have HBX := Lib.hid (HBW2.out.trans (hb2.mono HBW2.out.size))
                          clear hb2
                          go_wp2
                          go_ret
                          rw [HE.out]
                          exact ⟨rfl, HBX.out⟩
                        · have HQ2 := Lib.hid hq2
                          have HN := Lib.hid (HNX.out (by unfold mkR; rw [hq, hq2]; rfl))
                          clear hq hq2
                          go_wp2_with fail
                          refine (number_at u1 true _ HQ).mono ?_
                          rintro x w2 ⟨rfl, hb2⟩
                          have HW2 := Lib.hid (HWm.out.trans (hb2.mono HWm.out.size))
                          have HBW2 := Lib.hid (HBWm.out.trans (hb2.mono HBWm.out.size))
                          have y' := below_keeps hb2 _ _ y
                          have z2' := below_keeps hb2 _ _ z2
                          clear hb2 y z1 z2
                          go_wp2_with fail
                          refine (number_at u2 true _ HQ2).mono ?_
                          rintro x w3 ⟨rfl, hb2⟩
                          have HBX := Lib.hid (HW2.out.trans (hb2.mono HW2.out.size))
                          clear hb2
                          go_wp2
                          go_roundw
                          case rel => exact ⟨k + 1, by go_num, by omega, HN.out, HBX.out⟩
                          case measure => simp [intOf]; omega
                    · have hk1 : ¬ (k : Int) < (ma.length : Int) := by omega
                      have HLm := Lib.hid (all_end (l := ma) (hlt) HAm.out)
                      clear HAm
                      go_wp2
                      clear hk1 hlt y hkm
                      go_loopw [9] (fun i wr => ∃ k : Nat, i = .int .i64 k ∧ k ≤ en.length ∧ ((ensOf en).take k).all R.right = true ∧ Below W.heap.size W wr) (fun i _ => en.length - (intOf i).toNat)
                      case atStart => exact ⟨0, rfl, Nat.zero_le _, by simp, HWm.out⟩
                      case round =>
                        obtain ⟨k, rfl, hke, hall, hbw⟩ := hrel
                        have HAe := Lib.hid hall
                        have HWe := Lib.hid hbw
                        clear hall hbw
                        have HBWe := Lib.hid (HB.out.trans (HWe.out.mono HB.out.size))
                        have y : wr.cell? ⟨w.heap.size, 6, none⟩ = some (.slice ae en.length ce) := below_keeps HWe.out _ _ ((HC.out 6).trans rfl)
                        by_cases hlt : k < en.length
                        · have hk1 : (k : Int) < (en.length : Int) := by omega
                          obtain ⟨hre, -, b1, o1, rfl, hat7⟩ := HXe.out k hlt
                          have h7 := hat7.keep (below_keeps HBWe.out)
                          have HRE := Lib.hid (readsE_below hre HBWe.out)
                          have HTK := Lib.hid (HTEN.out _ (List.getElem_mem hlt))
                          have hlt2 : k < (ensOf en).length := by rw [ensOf_len]; exact hlt
                          have e1 : (ensOf en)[k]'hlt2 = en[k].1 := by simp
                          have HNX : Hid (R.right en[k].1 = true → ((ensOf en).take (k + 1)).all R.right = true) := Lib.hid fun h => all_next hlt2 HAe.out (by rw [e1]; exact h)
                          have HEX : Hid (R.right en[k].1 = false → r = false) := Lib.hid fun h => HF.out ((ensOf en).all R.right) (by simp [tests]) (all_no hlt2 (by rw [e1]; exact h))
                          clear hat7 hre e1 hlt2
                          generalize en[k] = pe at h7 HRE HTK HNX HEX
                          obtain ⟨⟨ps, ep, ⟨est, eex, ese, esq, eevs⟩⟩, u⟩ := pe
                          dsimp only at h7 HRE HTK HNX HEX
                          obtain ⟨ea, eb, ec, rfl⟩ := readsE_form HRE.out
                          obtain ⟨c0, c1, c2, c3, c4, c5, c6⟩ := h7
                          dsimp only at c0 c1 c2 c3 c4 c5 c6
                          cases hq : R.right ⟨ps, ep, ⟨est, eex, ese, esq, eevs⟩⟩
                          · have HQ := Lib.hid hq
                            have HE := Lib.hid (HEX.out hq)
                            clear hq
                            go_wp2_with fail
                            refine (refRight6_at ⟨ps, ep, ⟨est, eex, ese, esq, eevs⟩⟩ _ false _ HRE.out HTK.out HQ).mono ?_
                            rintro x w2 ⟨rfl, hb2⟩
                            clear c0 c1 c2 c3 c4 c5 c6
                            have HBX := Lib.hid (HBWe.out.trans (hb2.mono HBWe.out.size))
                            clear hb2
                            go_wp2
                            go_ret
                            rw [HE.out]
                            exact ⟨rfl, HBX.out⟩
                          · have HQ := Lib.hid hq
                            have HN := Lib.hid (HNX.out hq)
                            clear hq
                            go_wp2_with fail
                            refine (refRight6_at ⟨ps, ep, ⟨est, eex, ese, esq, eevs⟩⟩ _ true _ HRE.out HTK.out HQ).mono ?_
                            rintro x w2 ⟨rfl, hb2⟩
                            clear c0 c1 c2 c3 c4 c5 c6
                            have HBX := Lib.hid (HWe.out.trans (hb2.mono HWe.out.size))
                            clear hb2
                            go_wp2
                            go_roundw
                            case rel => exact ⟨k + 1, by go_num, by omega, HN.out, HBX.out⟩
                            case measure => simp [intOf]; omega
                        · have hk1 : ¬ (k : Int) < (en.length : Int) := by omega
                          have HLe := Lib.hid (all_end (l := (ensOf en)) (by rw [ensOf_len]; exact hlt) HAe.out)
                          clear HAe
                          go_wp2
                          clear hk1 hlt y hke
                          go_loopw [11] (fun i wr => ∃ k : Nat, i = .int .i64 k ∧ k ≤ ev.length ∧ (ev.take k).all E.right = true ∧ Below W.heap.size W wr) (fun i _ => ev.length - (intOf i).toNat)
                          case atStart => exact ⟨0, rfl, Nat.zero_le _, by simp, HWe.out⟩
                          case round =>
                            obtain ⟨k, rfl, hkv, hall, hbw⟩ := hrel
                            have HAv := Lib.hid hall
                            have HWv := Lib.hid hbw
                            clear hall hbw
                            have HBWv := Lib.hid (HB.out.trans (HWv.out.mono HB.out.size))
                            have y : wr.cell? ⟨w.heap.size, 7, none⟩ = some (.slice av ev.length cv) := below_keeps HWv.out _ _ ((HC.out 7).trans rfl)
                            by_cases hlt : k < ev.length
                            · have hk1 : (k : Int) < (ev.length : Int) := by omega
                              obtain ⟨b1, o1, rfl, g1, g2⟩ := HXv.out k hlt
                              have z1 : wr.cell? ⟨b1, o1 + k * 2, none⟩ = some (.string (B ev[k].1)) := below_keeps HBWv.out _ _ g1
                              have z2 : wr.cell? ⟨b1, o1 + k * 2 + 1, none⟩ = some (.string (B ev[k].2)) := below_keeps HBWv.out _ _ g2
                              have HTK := Lib.hid (HTEV.out _ (List.getElem_mem hlt))
                              clear g1 g2
                              cases hq : E.right ev[k]
                              · have HQ := Lib.hid hq
                                have HE := Lib.hid (HF.out (ev.all E.right) (by simp [tests]) (all_no hlt hq))
                                clear hq
                                generalize ev[k] = e at z1 z2 HTK HQ
                                go_wp2_with fail
                                refine (refRight_at e false _ HTK.out HQ).mono ?_
                                rintro x w2 ⟨rfl, hb2⟩
                                have HBX := Lib.hid (HBWv.out.trans (hb2.mono HBWv.out.size))
                                clear hb2
                                go_wp2
                                go_ret
                                rw [HE.out]
                                exact ⟨rfl, HBX.out⟩
                              · have HQ := Lib.hid hq
                                have HN := Lib.hid (all_next hlt HAv.out hq)
                                clear hq
                                generalize ev[k] = e at z1 z2 HTK HQ
                                go_wp2_with fail
                                refine (refRight_at e true _ HTK.out HQ).mono ?_
                                rintro x w2 ⟨rfl, hb2⟩
                                have HBX := Lib.hid (HWv.out.trans (hb2.mono HWv.out.size))
                                clear hb2
                                go_wp2
                                go_roundw
                                case rel => exact ⟨k + 1, by go_num, by omega, HN.out, HBX.out⟩
                                case measure => simp [intOf]; omega
                            · have hk1 : ¬ (k : Int) < (ev.length : Int) := by omega
                              have HLv := Lib.hid (all_end (l := ev) (hlt) HAv.out)
                              clear HAv
                              clear y
                              have HT : Hid (r = lastT kind st ⟨bst, bex, bse, bsq, bev⟩) := Lib.hid (by
                                rw [← HR.out]
                                unfold tests
                                rw [HLn.out, HLc.out, HLi.out, HLb.out, HLm.out, HLe.out, HLv.out, decide_eq_true hk]
                                simp only [List.all_cons, List.all_nil, id, Bool.and_true, Bool.true_and]
                                rw [decide_eq_true (by omega), decide_eq_true (by omega), decide_eq_true (by omega), decide_eq_true (by omega), decide_eq_true (by rw [ensOf_len]; omega), decide_eq_true (by omega)]
                                simp only [Bool.true_and])
                              have x0 : wr.cell? ⟨w.heap.size, 0, none⟩ = some (.int .i64 kind) := below_keeps HWv.out _ _ ((HC.out 0).trans rfl)
                              have x8 : wr.cell? ⟨w.heap.size, 8, none⟩ = some (.string (B bst)) := below_keeps HWv.out _ _ ((HC.out 8).trans rfl)
                              have x9 : wr.cell? ⟨w.heap.size, 9, none⟩ = some (.int .i64 bex) := below_keeps HWv.out _ _ ((HC.out 9).trans rfl)
                              have x10 : wr.cell? ⟨w.heap.size, 10, none⟩ = some (.int .i64 bse) := below_keeps HWv.out _ _ ((HC.out 10).trans rfl)
                              have x11 : wr.cell? ⟨w.heap.size, 11, none⟩ = some (.int .i64 bsq) := below_keeps HWv.out _ _ ((HC.out 11).trans rfl)
                              have x12 : wr.cell? ⟨w.heap.size, 12, none⟩ = some (.slice at_ bev.length ct) := below_keeps HWv.out _ _ ((HC.out 12).trans rfl)
                              have x13 : wr.cell? ⟨w.heap.size, 13, none⟩ = some (.string (B st)) := below_keeps HWv.out _ _ ((HC.out 13).trans rfl)
                              have y : wr.cell? ⟨w.heap.size, 7, none⟩ = some (.slice av ev.length cv) := below_keeps HWv.out _ _ ((HC.out 7).trans rfl)
                              by_cases k12 : kind = 12
                              · have HE := Lib.hid (show r = nameL st by rw [HT.out]; unfold lastT; rw [if_pos k12])
                                subst k12
                                go_wp2_with fail
                                refine (refName_l st _ HTST.out).mono ?_
                                rintro x w2 ⟨rfl, hb2⟩
                                have HBX := Lib.hid (HBWv.out.trans (hb2.mono HBWv.out.size))
                                clear hb2 x0 x8 x9 x10 x11 x12 x13 y
                                go_wp2
                                go_ret
                                rw [HE.out]
                                exact ⟨rfl, HBX.out⟩
                              have k12b : (kind == 12) = false := beq_eq_false_iff_ne.2 k12
                              by_cases k11 : kind = 11
                              · obtain ⟨fz, HFZ⟩ : ∃ fz, Hid (E.fits ⟨bst, bex, bse, bsq, bev⟩ = fz) := ⟨_, Lib.hid rfl⟩
                                have HE := Lib.hid (show r = decide (fz = 0) by rw [HT.out]; unfold lastT; rw [if_neg k12, if_pos k11, HFZ.out])
                                subst k11
                                clear k12 k12b
                                go_wp2_with fail
                                refine (refFits_at ⟨bst, bex, bse, bsq, bev⟩ _ fz _ (readsE_below HBT.out HBWv.out) HTBT.out.1 HTBT.out.2 HFZ).mono ?_
                                rintro x w2 ⟨rfl, hb2⟩
                                have HBX := Lib.hid (HBWv.out.trans (hb2.mono HBWv.out.size))
                                clear hb2 x0 x8 x9 x10 x11 x12 x13 y
                                by_cases h0 : fz = 0
                                · subst h0
                                  go_wp2
                                  go_ret
                                  rw [HE.out]
                                  exact ⟨rfl, HBX.out⟩
                                · have hfi : ((fz : Int) == 0) = false := beq_eq_false_iff_ne.2 (by omega)
                                  have HE2 := Lib.hid (show r = false by rw [HE.out, decide_eq_false h0])
                                  clear h0
                                  go_wp2
                                  go_ret
                                  rw [HE2.out]
                                  exact ⟨rfl, HBX.out⟩
                              have k11b : (kind == 11) = false := beq_eq_false_iff_ne.2 k11
                              have k11c : (kind != 11) = true := by simpa using k11
                              have HE := Lib.hid (show r = true by rw [HT.out]; unfold lastT; rw [if_neg k12, if_neg k11])
                              clear k11 k12
                              go_wp2
                              go_ret
                              rw [HE.out]
                              exact ⟨rfl, HBWv.out⟩
theorem refRight7_at (f : Fl) (r : Bool) (w : World) (hr : f.Reads w) (H : Hid (f.right = r)) :
    Calls Tryz.prog 9 #[f.val] w fun x w' => x = .returned (.bool r) ∧ Below w.heap.size w w' := by
  rw [← H.out]; exact refRight7_l f w hr
end Go.Proofs.YtljcgpdjhjkciaaGreat
