/-
  Own texts, joined: ManCode4 ManCode5 ManCode6 ManHelp
-/
import Derived.Test.YtmfhipjceeijmaaGreatBun17
import Derived.Test.YtmfhipjceeijmaaGreatBun20
import Derived.Test.YtmfhipjceeijmaaGreatBun11

/-
  The manifest package: Load, epochOf, marksOf, keep, Raise, Epoch.
-/
namespace Go.Proofs.YtmfhipjceeijmaaGreat.A
open Go.RowKit
open D (Tx ReadsI i64B readsI_below dP)
attribute [local go_sem] ext_Bd ext_Bl ext_Bt toList_B add_B size_B get_Bt

theorem own_set2 {w : World} {base g : Nat} {e : TypeId} {v : Value} {n : Nat} {ys : List Value} (h : w.ownsRow base e 1 v n ys) (hg : g < base) (x y : Value) : ((w.setCell ⟨g, 0, none⟩ x).setCell ⟨g, 1, none⟩ y).ownsRow base e 1 v n ys := by
  have hne : ∀ q, v.ownBlock = some q → g ≠ q := fun q e => by have := (h.lt q e).1; omega
  have h2 := h.kept (Lib.grownBy_setCell w g 0 x) (.inr fun e => hne _ e rfl)
  exact h2.kept (Lib.grownBy_setCell _ g 1 y) (.inr fun e => hne _ e rfl)
section
variable (C : D.DC) {bs : Nat} {w : World} {p room : Nat} {l : List D.F} {S : Nat → Prop}
theorem loadD_of {l : List D.F} {e n : Nat} {segs : List Nat} (H : loadD l = (e, n, segs)) :
    (D.read fileN l = ([], 6) ∧ e = 0 ∧ n = 1 ∧ segs = []) ∨ ∃ s, D.read fileN l = (s, 0) ∧ (∃ f ∈ l, f.data = s) ∧ ((∃ e1, F.take s = .bad e1 ∧ 0 < e1 ∧ e = 2 ∧ n = 0 ∧ segs = []) ∨ (∃ pl r, F.take s = .ok pl r ∧ r ≠ [] ∧ e = 2 ∧ n = 0 ∧ segs = []) ∨ (∃ pl, F.take s = .ok pl [] ∧ loadR (loadP pl) = (e, n, segs))) := by
  unfold loadD at H
  cases hf : D.find fileN l with
  | none =>
    rw [hf] at H
    cases H
    exact .inl ⟨by unfold D.read; rw [hf], rfl, rfl, rfl⟩
  | some f =>
    rw [hf] at H
    dsimp only at H
    refine .inr ⟨f.data, by unfold D.read; rw [hf], ⟨f, (D.find_some hf).1, rfl⟩, ?_⟩
    rcases F.take_cases f.data with ⟨e1, hs, he⟩ | ⟨pl, r, hs⟩
    · rw [loadL_bad hs] at H
      cases H
      exact .inl ⟨e1, hs, he, rfl, rfl, rfl⟩
    · by_cases hr : r = []
      · subst hr
        rw [loadL_ok hs] at H
        exact .inr (.inr ⟨pl, hs, H⟩)
      · rw [loadL_rest hs hr] at H
        cases H
        exact .inr (.inl ⟨pl, r, hs, hr, rfl, rfl, rfl⟩)
theorem data_le {room : Nat} {l : List D.F} {f : D.F} (hI : D.Inv room l) (hf : f ∈ l) : f.data.length ≤ room := by
  have h2 := D.used_del (n := f.name) hI.sorted
  rw [D.find_mem hI.sorted hf] at h2
  have := hI.room
  simp only [D.lenAt] at h2
  omega
set_option maxRecDepth 100000 in
set_option maxHeartbeats 4000000 in
theorem Load_l (e n : Nat) (segs : List Nat) (hA : C.At bs w p room l S) (hI : D.Inv room l) (hroom : room ≤ 100000000) (H : loadD l = (e, n, segs)) :
    Calls Tryz.prog 10 #[dP p] w fun x w' => (∃ v, x = .returned (.tuple #[.agg #[.int .i64 (n : Int), v], .int .i64 (e : Int)]) ∧ w'.ownsRow w.heap.size 3 1 v segs.length (intCells segs)) ∧ Below w.heap.size w w' := by
  have HB := Lib.hid ((Below.refl w.heap.size w).alloc (Nat.le_refl _) (.cells #[.int .i64 0, .slice none 0 0] 37))
  have HC := Lib.hid (heap_alloc_new w (.cells #[.int .i64 0, .slice none 0 0] 37))
  have HA := Lib.hid (C.below hA HB.out)
  have HI := Lib.hid hI
  obtain ⟨rb, hrb⟩ : ∃ rb, w.heap.size = rb := ⟨_, rfl⟩
  rw [hrb] at HC
  have HRB := Lib.hid hrb
  have hcase := loadD_of H
  have HLT : Hid (rb < (w.alloc (.cells #[.int .i64 0, .slice none 0 0] 37)).heap.size) := Lib.hid (by rw [← hrb]; simp)
  clear hrb hA hI H
  have HFIN : Hid (∀ (W w' : World) (x y : Value), Below w.heap.size w W → rb < W.heap.size → W.heap[rb]? = some (.cells #[.int .i64 0, .slice none 0 0] 37 (0, 0)) → Below W.heap.size W w' → (w'.heap[rb]? = some (.cells #[.int .i64 0, .slice none 0 0] 37 (0, 0)) ∧ Below w.heap.size w ((w'.setCell ⟨rb, 0, none⟩ x).setCell ⟨rb, 1, none⟩ y))) := Lib.hid fun W w' x y h1 h2 h3 hb => ⟨(hb.block rb h2).trans h3, belowA (h1.trans (hb.mono h1.size)) (by rw [HRB.out]; exact Nat.le_refl _) x y⟩
  rcases hcase with ⟨hrd, rfl, rfl, rfl⟩ | ⟨s, hrd, ⟨f, hfm, hfs⟩, hcase⟩
  · have HRD := Lib.hid hrd
    clear hrd
    go_enter Tryz.func10, Tryz.ntmps10
    go_wp2_with fail
    rw [HRB.out]
    generalize w.alloc (.cells #[.int .i64 0, .slice none 0 0] 37) = W at *
    refine (bytesOf_l C fileN [] 6 false HA.out HI.out hroom (by simp [fileN]) HRD.out (Lib.hid rfl)).mono ?_
    rintro x w1 ⟨rfl, hb1⟩
    obtain ⟨hres, hbel⟩ := HFIN.out W w1 (.int .i64 1) (.slice none 0 0) HB.out HLT.out HC.out hb1
    have r0 := blkA hres 0
    have r1 := blkA hres 1
    simp only [List.getElem?_toArray, List.getElem?_cons_zero, List.getElem?_cons_succ] at r0 r1
    have f0 := frzA hres 0
    have f1 := frzA (setA hres 0 (.int .i64 1)) 1
    have HH := Lib.hid (And.intro hres hbel)
    clear hres hbel hb1 HFIN
    go_wp2
    obtain ⟨e0, e1⟩ := twoA HH.out.1 (.int .i64 1) (.slice none 0 0)
    exact bodyPost_ret (v := .tuple #[.agg #[.int .i64 1, .slice none 0 0], .int .i64 0]) (by simp [results, Tryz.results10, go_sem, e0, e1]) rfl ⟨⟨_, rfl, ⟨rfl, .inl ⟨rfl, rfl⟩⟩⟩, HH.out.2⟩
  · have HRD := Lib.hid hrd
    have hsl : s.length ≤ 100000000 := by rw [← hfs]; have := data_le HI.out hfm; omega
    clear hrd hfm hfs
    go_enter Tryz.func10, Tryz.ntmps10
    go_wp2_with fail
    rw [HRB.out]
    generalize w.alloc (.cells #[.int .i64 0, .slice none 0 0] 37) = W at *
    refine (bytesOf_l C fileN s 0 true HA.out HI.out hroom (by simp [fileN]) HRD.out (Lib.hid rfl)).mono ?_
    rintro x w1 ⟨rfl, hb1⟩
    have HB1 := Lib.hid hb1
    clear hb1
    rcases hcase with ⟨e1, hs, he, rfl, rfl, rfl⟩ | ⟨pl, r, hs, hr, rfl, rfl, rfl⟩ | ⟨pl, hs, hm⟩
    · have hei : ((e1 : Int) == 0) = false := beq_eq_false_iff_ne.2 (by omega)
      have hen : ¬ (e1 : Int) = 0 := by omega
      have HT := Lib.hid (show ftRes (F.take s) = .tuple #[.string (B []), .string (B []), .int .i64 (e1 : Int)] by rw [hs, show ftRes (.bad e1) = _ from ftRes_bad e1])
      clear hs he
      go_wp2_with fail
      refine (FTake_at s _ w1 hsl HT).mono ?_
      rintro x w2 ⟨rfl, hb2⟩
      obtain ⟨hres, hbel⟩ := HFIN.out W w2 (.int .i64 0) (.slice none 0 0) HB.out HLT.out HC.out (HB1.out.trans (hb2.mono HB1.out.size))
      have r0 := blkA hres 0
      have r1 := blkA hres 1
      simp only [List.getElem?_toArray, List.getElem?_cons_zero, List.getElem?_cons_succ] at r0 r1
      have f0 := frzA hres 0
      have f1 := frzA (setA hres 0 (.int .i64 0)) 1
      have HH := Lib.hid (And.intro hres hbel)
      clear hres hbel hb2 HFIN
      go_wp2
      obtain ⟨e0, e2⟩ := twoA HH.out.1 (.int .i64 0) (.slice none 0 0)
      exact bodyPost_ret (v := .tuple #[.agg #[.int .i64 0, .slice none 0 0], .int .i64 2]) (by simp [results, Tryz.results10, go_sem, e0, e2]) rfl ⟨⟨_, rfl, ⟨rfl, .inl ⟨rfl, rfl⟩⟩⟩, HH.out.2⟩
    · have HT := Lib.hid (show ftRes (F.take s) = .tuple #[.string (B pl), .string (B r), .int .i64 0] by rw [hs, show ftRes (.ok pl r) = _ from ftRes_ok pl r])
      have hrb : (r == ([] : Tx)) = false := by cases r with | nil => exact absurd rfl hr | cons a b => rfl
      have hrn : (r != ([] : Tx)) = true := by cases r with | nil => exact absurd rfl hr | cons a b => rfl
      clear hs
      go_wp2_with fail
      refine (FTake_at s _ w1 hsl HT).mono ?_
      rintro x w2 ⟨rfl, hb2⟩
      obtain ⟨hres, hbel⟩ := HFIN.out W w2 (.int .i64 0) (.slice none 0 0) HB.out HLT.out HC.out (HB1.out.trans (hb2.mono HB1.out.size))
      have r0 := blkA hres 0
      have r1 := blkA hres 1
      simp only [List.getElem?_toArray, List.getElem?_cons_zero, List.getElem?_cons_succ] at r0 r1
      have f0 := frzA hres 0
      have f1 := frzA (setA hres 0 (.int .i64 0)) 1
      have HH := Lib.hid (And.intro hres hbel)
      clear hres hbel hb2 HFIN
      go_wp2
      obtain ⟨e0, e2⟩ := twoA HH.out.1 (.int .i64 0) (.slice none 0 0)
      exact bodyPost_ret (v := .tuple #[.agg #[.int .i64 0, .slice none 0 0], .int .i64 2]) (by simp [results, Tryz.results10, go_sem, e0, e2]) rfl ⟨⟨_, rfl, ⟨rfl, .inl ⟨rfl, rfl⟩⟩⟩, HH.out.2⟩
    · have HT := Lib.hid (show ftRes (F.take s) = .tuple #[.string (B pl), .string (B []), .int .i64 0] by rw [hs, show ftRes (.ok pl []) = _ from ftRes_ok pl []])
      have hpl : pl.length ≤ 100000000 := by have := (F.take_inv hs).2.2; omega
      have HM := Lib.hid hm
      clear hs hm
      go_wp2_with fail
      refine (FTake_at s _ w1 hsl HT).mono ?_
      rintro x w2 ⟨rfl, hb2⟩
      have HB2 := Lib.hid (HB1.out.trans (hb2.mono HB1.out.size))
      clear hb2
      go_wp2_with fail
      refine (manifestOf_l pl e n segs w2 hpl HM.out).mono ?_
      rintro x w3 ⟨⟨v, rfl, hown⟩, hb3⟩
      obtain ⟨va, vc, hvv, -⟩ := reads_own hown
      subst hvv
      have hlt2 : rb < w2.heap.size := Nat.lt_of_lt_of_le HLT.out HB2.out.size
      obtain ⟨hres, hbel⟩ := HFIN.out W w3 (.int .i64 (n : Int)) (.slice va (intCells segs).length vc) HB.out HLT.out HC.out (HB2.out.trans (hb3.mono HB2.out.size))
      have HOW := Lib.hid (own_mono (own_set2 hown hlt2 (.int .i64 (n : Int)) (.slice va (intCells segs).length vc)) (base' := w.heap.size) (by rw [HRB.out]; omega))
      have r0 := blkA hres 0
      have r1 := blkA hres 1
      simp only [List.getElem?_toArray, List.getElem?_cons_zero, List.getElem?_cons_succ] at r0 r1
      have f0 := frzA hres 0
      have f1 := frzA (setA hres 0 (.int .i64 (n : Int))) 1
      have HH := Lib.hid (And.intro hres hbel)
      clear hres hbel hb3 HFIN hown
      go_wp2
      obtain ⟨e0, e2⟩ := twoA HH.out.1 (.int .i64 (n : Int)) (.slice va (intCells segs).length vc)
      exact bodyPost_ret (v := .tuple #[.agg #[.int .i64 (n : Int), .slice va (intCells segs).length vc], .int .i64 (e : Int)]) (by simp [results, Tryz.results10, go_sem, e0, e2]) rfl ⟨⟨_, rfl, HOW.out⟩, HH.out.2⟩
end
theorem epochOf_step {p : Tx} {z : Nat} {s1 : Stt} (h : step (p, true) = (z, s1)) : epochOf p = if s1 = (([] : Tx), true) ∧ 1 ≤ z ∧ z ≤ far then some z else none := by
  rcases N.takeL_cases p with ⟨e, ht⟩ | ⟨n, r, ht⟩
  · rw [step_bad true ht] at h
    cases h
    unfold epochOf
    rw [ht, if_neg (by intro hh; exact absurd hh.1 (by simp))]
  · rw [step_ok true ht] at h
    cases h
    unfold epochOf
    rw [ht]
    cases r with
    | nil =>
      simp only
      by_cases hb : 1 ≤ z ∧ z ≤ far
      · rw [if_pos hb, if_pos ⟨by trivial, hb⟩]
      · rw [if_neg hb, if_neg fun hh => hb hh.2]
    | cons a r =>
      simp only
      rw [if_neg (by intro hh; exact absurd hh.1 (by simp))]
set_option maxRecDepth 100000 in
set_option maxHeartbeats 2000000 in
theorem epochOf_l (p : Tx) (w : World) (hp : p.length ≤ 100000000) :
    Calls Tryz.prog 70 #[.string (B p)] w fun x w' => (∃ (z : Nat) (b : Bool), x = .returned (.tuple #[.int .i64 (z : Int), .bool b]) ∧ z ≤ 1099511627776 ∧ epochOf p = if b = true then some z else none) ∧ Below w.heap.size w w' := by
  obtain ⟨⟨z, s1⟩, hs1⟩ : ∃ q, step (p, true) = q := ⟨_, rfl⟩
  have HE := Lib.hid (epochOf_step hs1)
  have hz : z ≤ 1099511627776 := by have := (step_le (p, true)).1; rw [hs1] at this; exact this
  have HS := Lib.hid hs1
  clear hs1
  go_enter Tryz.func70, Tryz.ntmps70
  go_wp2_with fail
  refine (numbers_l p w).mono ?_
  rintro x w1 ⟨rfl, hnx, hsz, hb1⟩
  have HNX := Lib.hid hnx
  have HB1 := Lib.hid hb1
  clear hnx hb1
  go_wp2_with fail
  refine (next_l w.heap.size (w.heap.size + 1) (p, true) z s1 w1 HNX.out hp HS).mono ?_
  rintro x w2 ⟨rfl, hnx, hbut⟩
  have HNX2 := Lib.hid hnx
  have HB2 : Hid (Below w.heap.size w w2) := Lib.hid ⟨hbut.os.trans HB1.out.os, hbut.tape.trans HB1.out.tape, hbut.output.trans HB1.out.output, Nat.le_trans HB1.out.size hbut.size, fun k hk => (hbut.block k (by omega) (by omega)).trans (HB1.out.block k hk)⟩
  clear hnx hbut HNX HB1
  by_cases hs : s1 = (([] : Tx), true)
  · have HO : Hid (decide (s1 = (([] : Tx), true)) = true) := Lib.hid (decide_eq_true hs)
    by_cases hb : 1 ≤ z ∧ z ≤ far
    · have HBT : Hid (decide ((1 : Int) ≤ (z : Int) ∧ (z : Int) ≤ 274877906944) = true) := Lib.hid (by unfold far at hb; simp; omega)
      have HEE : Hid (epochOf p = if true = true then some z else none) := Lib.hid (by rw [HE.out, if_pos ⟨hs, hb⟩, if_pos rfl])
      clear hs hb HE
      go_wp2_with (first
        | (refine (over_l w.heap.size (w.heap.size + 1) s1 true _ HNX2.out HO).mono ?_; rintro x w2 ⟨rfl, rfl⟩)
        | (go_at_call 44; refine (between_l _ _ _ true _ HBT).mono ?_; rintro x w2 ⟨rfl, rfl⟩))
      go_ret2
      exact ⟨⟨z, true, rfl, hz, HEE.out⟩, HB2.out⟩
    · have HBT : Hid (decide ((1 : Int) ≤ (z : Int) ∧ (z : Int) ≤ 274877906944) = false) := Lib.hid (by unfold far at hb; rw [decide_eq_false_iff_not]; omega)
      have HEE : Hid (epochOf p = if false = true then some z else none) := Lib.hid (by rw [HE.out, if_neg fun h => hb h.2, if_neg (by decide)])
      clear hs hb HE
      go_wp2_with (first
        | (refine (over_l w.heap.size (w.heap.size + 1) s1 true _ HNX2.out HO).mono ?_; rintro x w2 ⟨rfl, rfl⟩)
        | (go_at_call 44; refine (between_l _ _ _ false _ HBT).mono ?_; rintro x w2 ⟨rfl, rfl⟩))
      go_ret2
      exact ⟨⟨z, false, rfl, hz, HEE.out⟩, HB2.out⟩
  · have HO : Hid (decide (s1 = (([] : Tx), true)) = false) := Lib.hid (decide_eq_false hs)
    have HEE : Hid (epochOf p = if false = true then some z else none) := Lib.hid (by rw [HE.out, if_neg fun h => hs h.1, if_neg (by decide)])
    clear hs HE
    go_wp2_with (refine (over_l w.heap.size (w.heap.size + 1) s1 false _ HNX2.out HO).mono ?_; rintro x w2 ⟨rfl, rfl⟩)
    go_ret2
    exact ⟨⟨z, false, rfl, hz, HEE.out⟩, HB2.out⟩
end Go.Proofs.YtmfhipjceeijmaaGreat.A

/-
  The manifest package: marksOf, keep, Raise, Epoch.
-/
namespace Go.Proofs.YtmfhipjceeijmaaGreat.A
open Go.RowKit
open D (Tx ReadsI i64B readsI_below dP)
attribute [local go_sem] ext_Bd ext_Bl ext_Bt toList_B add_B size_B get_Bt

theorem threeA {w : World} {g : Nat} {x y z : Value} {t : TypeId} (h : w.heap[g]? = some (.cells #[x, y, z] t (0, 0))) (a b c : Value) : (((w.setCell ⟨g, 0, none⟩ a).setCell ⟨g, 1, none⟩ b).setCell ⟨g, 2, none⟩ c).heap[g]? = some (.cells #[a, b, c] t (0, 0)) := by
  have h1 := setA (setA (setA h 0 a) 1 b) 2 c
  rw [h1]
  rfl
theorem below3 {w0 w : World} {g n : Nat} (h : Below n w0 w) (hg : n ≤ g) (a b c : Value) : Below n w0 (((w.setCell ⟨g, 0, none⟩ a).setCell ⟨g, 1, none⟩ b).setCell ⟨g, 2, none⟩ c) :=
  ⟨h.os, h.tape, h.output, by simpa using h.size, fun k hk => by rw [Below.heap_setCell _ _ _ _ (by show k ≠ g; omega), Below.heap_setCell _ _ _ _ (by show k ≠ g; omega), Below.heap_setCell _ _ _ _ (by show k ≠ g; omega)]; exact h.block k hk⟩
theorem below1 {w0 w : World} {g n : Nat} (h : Below n w0 w) (hg : n ≤ g) (j : Nat) (a : Value) : Below n w0 (w.setCell ⟨g, j, none⟩ a) :=
  ⟨h.os, h.tape, h.output, by simpa using h.size, fun k hk => by rw [Below.heap_setCell _ _ _ _ (by show k ≠ g; omega)]; exact h.block k hk⟩
theorem belowT {n : Nat} {a b c : World} (h : Below n a b) (k : Below b.heap.size b c) (hn : n ≤ b.heap.size) : Below n a c :=
  ⟨k.os.trans h.os, k.tape.trans h.tape, k.output.trans h.output, Nat.le_trans h.size k.size, fun i hi => (k.block i (by omega)).trans (h.block i hi)⟩
theorem marksF_at {l : List Tx} {i : Nat} (h : i < l.length) (a k : Nat) : marksF a k (l.drop i) = (match epochOf l[i] with | some e => if a < e then marksF e (k + 1) (l.drop (i + 1)) else (a, k, false) | none => (a, k, false)) := by
  rw [List.drop_eq_getElem_cons h]
  rfl
abbrev markV (a k : Nat) (b : Bool) : Array Value := #[.int .i64 (a : Int), .int .i64 (k : Int), .bool b]
section
variable (C : D.DC) {bs : Nat} {w : World} {p room : Nat} {l : List D.F} {S : Nat → Prop}
set_option maxRecDepth 100000 in
set_option maxHeartbeats 4000000 in
theorem marksOf_l (a k : Nat) (b : Bool) (hA : C.At bs w p room l S) (hI : D.Inv room l) (hroom : room ≤ 100000000) (H : epochD l = (a, k, b)) :
    Calls Tryz.prog 42 #[dP p] w fun x w' => x = .returned (.agg #[.int .i64 (a : Int), .int .i64 (k : Int), .bool b]) ∧ Below w.heap.size w w' := by
  obtain ⟨⟨s, er⟩, hrd⟩ : ∃ q, D.read markN l = q := ⟨_, rfl⟩
  have hsl : s.length ≤ 100000000 := by
    unfold D.read at hrd
    cases hf : D.find markN l with
    | none => rw [hf] at hrd; cases hrd; simp
    | some f => rw [hf] at hrd; cases hrd; have := data_le hI (D.find_some hf).1; omega
  have hmk : marksOf s = (a, k, b) := by unfold epochD at H; rw [hrd] at H; exact H
  have hpc := F.scan_count s
  have hwl := F.scan_le s
  have HM : Hid ((marksF 0 0 (F.scan s).1).1 = a ∧ (marksF 0 0 (F.scan s).1).2.1 = k ∧ ((marksF 0 0 (F.scan s).1).2.2 && decide ((F.scan s).2 = s.length)) = b) := Lib.hid (by
    unfold marksOf at hmk
    cases hmk
    exact ⟨rfl, rfl, rfl⟩)
  have HB := Lib.hid ((Below.refl w.heap.size w).alloc (Nat.le_refl _) (.cells #[.int .i64 0, .int .i64 0, .bool false] 75))
  have HC := Lib.hid (heap_alloc_new w (.cells #[.int .i64 0, .int .i64 0, .bool false] 75))
  have HA := Lib.hid (C.below hA HB.out)
  have HI := Lib.hid hI
  have HRD := Lib.hid hrd
  have HLT : Hid (w.heap.size < (w.alloc (.cells #[.int .i64 0, .int .i64 0, .bool false] 75)).heap.size) := Lib.hid (by simp)
  obtain ⟨rb, hrb⟩ : ∃ rb, w.heap.size = rb := ⟨_, rfl⟩
  rw [hrb] at HC HLT
  have HRB := Lib.hid hrb
  clear hrb hA hI H hrd hmk
  go_enter Tryz.func42, Tryz.ntmps42
  go_wp2_with fail
  rw [HRB.out]
  generalize w.alloc (.cells #[.int .i64 0, .int .i64 0, .bool false] 75) = W at *
  refine (bytesOf_l C markN s er (decide (er = 0)) HA.out HI.out hroom (by simp [markN]) HRD.out (Lib.hid rfl)).mono ?_
  rintro x w1 ⟨rfl, hb1⟩
  have HB1 := Lib.hid (HB.out.trans (hb1.mono HB.out.size))
  have HC1 := Lib.hid ((hb1.block rb HLT.out).trans HC.out)
  have hlt1 := Nat.lt_of_lt_of_le HLT.out hb1.size
  clear hb1 HB HC HLT HA
  generalize decide (er = 0) = bb at *
  go_wp2_with fail
  refine (FScan_l s w1 hsl).mono ?_
  rintro x w2 ⟨v, rfl, hown, hb2⟩
  have HB2 := Lib.hid (HB1.out.trans (hb2.mono HB1.out.size))
  have HC2 := Lib.hid ((hb2.block rb hlt1).trans HC1.out)
  have hlt2 := Nat.lt_of_lt_of_le hlt1 hb2.size
  clear hb2 HB1 HC1
  obtain ⟨ps, hps⟩ : ∃ ps, (F.scan s).1 = ps := ⟨_, rfl⟩
  obtain ⟨wl, hwl2⟩ : ∃ wl, (F.scan s).2 = wl := ⟨_, rfl⟩
  rw [hps] at hown HM hpc
  rw [hwl2] at HM hwl
  rw [hwl2]
  have HPL : Hid (∀ q ∈ ps, q.length ≤ 100000000) := Lib.hid fun q hq => by
    rw [← hps] at hq
    have : ∀ (f : Nat) (s : Tx), ∀ q ∈ (F.scanF f s).1, q.length ≤ 8000 := fun f => by
      induction f with
      | zero => intro s q hq; simp [F.scanF] at hq
      | succ f ih =>
        intro s q hq
        rcases F.take_cases s with ⟨e, h, _⟩ | ⟨p, r, h⟩
        · rw [F.scanF_bad h] at hq; cases hq
        · rw [F.scanF_ok h] at hq
          rcases List.mem_cons.1 hq with rfl | hq
          · exact (F.take_inv h).2.2
          · exact ih r q hq
    have := this _ _ q hq
    omega
  clear hps hwl2 hlt1
  obtain ⟨va, vc, hvv, hx⟩ := reads_own hown
  rw [strCells_len] at hvv hx
  subst hvv
  have HX := Lib.hid hx
  have hnew := heap_alloc_new w2 (.cells #[.int .i64 0, .int .i64 0, .bool false] 75)
  have HAL := Lib.hid ((Below.refl w2.heap.size w2).alloc (Nat.le_refl _) (.cells #[.int .i64 0, .int .i64 0, .bool false] 75))
  obtain ⟨gi, hgi⟩ : ∃ gi, w2.heap.size = gi := ⟨_, rfl⟩
  rw [hgi] at hnew HAL hlt2
  have HGI := Lib.hid hgi
  have HNW := Lib.hid hnew
  clear hx hown hgi hnew
  go_upto_region 4 with (fail)
  rw [HGI.out]
  generalize hw3 : w2.alloc (.cells #[.int .i64 0, .int .i64 0, .bool false] 75) = W3 at *
  clear hw3
  have HFIN : Hid (∀ (wr : World) (x y z : Value), Below gi w2 wr → gi < wr.heap.size → (wr.heap[rb]? = some (.cells #[.int .i64 0, .int .i64 0, .bool false] 75 (0, 0)) ∧ Below w.heap.size w (((wr.setCell ⟨rb, 0, none⟩ x).setCell ⟨rb, 1, none⟩ y).setCell ⟨rb, 2, none⟩ z))) := Lib.hid fun wr x y z hb hl => by
    have h1 : Below w.heap.size w wr := HB2.out.trans (by
      have := HB2.out.size
      refine ⟨hb.os, hb.tape, hb.output, hb.size, fun i hi => hb.block i ?_⟩
      have := HRB.out
      omega)
    exact ⟨(hb.block rb hlt2).trans HC2.out, below3 h1 (by rw [HRB.out]; exact Nat.le_refl _) x y z⟩
  go_wp2
  go_loopw [25] (fun i wr => ∃ (j a2 k2 : Nat), i = .int .i64 j ∧ j ≤ ps.length ∧ k2 ≤ j ∧ a2 ≤ 1099511627776 ∧ Hid (marksF a2 k2 (ps.drop j) = marksF 0 0 ps) ∧ Hid (Below gi w2 wr) ∧ Hid (wr.heap[gi]? = some (.cells #[.int .i64 (a2 : Int), .int .i64 (k2 : Int), .bool false] 75 (0, 0)))) (fun i _ => ps.length - (intOf i).toNat)
  case atStart => exact ⟨0, 0, 0, rfl, Nat.zero_le _, Nat.le_refl _, by omega, Lib.hid rfl, HAL, HNW⟩
  case round =>
    obtain ⟨j, a2, k2, rfl, hj, hk2, ha2, HMF, HBW, HG⟩ := hrel
    have hgl := lt_of_block HG.out
    by_cases hlt : j < ps.length
    · have hi1 : (j : Int) < (ps.length : Int) := by omega
      obtain ⟨b1, o1, rfl, hc⟩ := HX.out j hlt
      have hcell : wr.cell? ⟨b1, o1 + j, none⟩ = some (.string (B ps[j])) := by
        have h1 : w2.cell? ⟨b1, o1 + j, none⟩ = some (.string (B ps[j])) := by rw [hc]; simp [strCells, hlt]
        have h2 := World.block_lt_of_cell? w2 _ h1
        rw [World.cell?_of_block (w := w2) (HBW.out.block _ (by have := HGI.out; exact this ▸ h2))]
        exact h1
      have hq := HPL.out ps[j] (List.getElem_mem hlt)
      have HST := Lib.hid (marksF_at hlt a2 k2)
      clear hc
      generalize ps[j] = q at *
      go_wp2_with fail
      refine (epochOf_l q wr hq).mono ?_
      rintro x w4 ⟨⟨z, bz, rfl, hz, hez⟩, hb4⟩
      have HB4 := Lib.hid (belowT HBW.out hb4 (by omega))
      have HG4 := Lib.hid ((hb4.block gi hgl).trans HG.out)
      clear hb4 hcell
      have hgl4 := lt_of_block HG4.out
      have c0 := blkA HG4.out 0
      have c1 := blkA HG4.out 1
      have c2 := blkA HG4.out 2
      simp only [List.getElem?_toArray, List.getElem?_cons_zero, List.getElem?_cons_succ] at c0 c1 c2
      have hstop : ∀ (hs : marksF a2 k2 (ps.drop j) = (a2, k2, false)), a2 = a ∧ k2 = k ∧ b = false := fun hs => by
        have h1 := HM.out
        rw [← HMF.out, hs] at h1
        exact ⟨h1.1, h1.2.1, by simpa using h1.2.2.symm⟩
      have hfin := HFIN.out w4 (.int .i64 (a2 : Int)) (.int .i64 (k2 : Int)) (.bool false) HB4.out hgl4
      have r0 := blkA hfin.1 0
      have r1 := blkA hfin.1 1
      have r2 := blkA hfin.1 2
      simp only [List.getElem?_toArray, List.getElem?_cons_zero, List.getElem?_cons_succ] at r0 r1 r2
      have f0 := frzA hfin.1 0
      have f1 := frzA (setA hfin.1 0 (.int .i64 (a2 : Int))) 1
      have f2 := frzA (setA (setA hfin.1 0 (.int .i64 (a2 : Int))) 1 (.int .i64 (k2 : Int))) 2
      have HH := Lib.hid (And.intro (threeA hfin.1 (.int .i64 (a2 : Int)) (.int .i64 (k2 : Int)) (.bool false)) hfin.2)
      clear hfin
      cases bz
      · have hs := hstop (by rw [HST.out, hez, if_neg (by decide)])
        obtain ⟨rfl, rfl, rfl⟩ := hs
        clear hez hstop HST
        go_wp2
        have e0 := blkA HH.out.1 0
        have e1 := blkA HH.out.1 1
        have e2 := blkA HH.out.1 2
        simp only [List.getElem?_toArray, List.getElem?_cons_zero, List.getElem?_cons_succ] at e0 e1 e2
        exact bodyPost_ret (v := .agg #[.int .i64 (a2 : Int), .int .i64 (k2 : Int), .bool false]) (by simp [results, Tryz.results42, go_sem, e0, e1, e2]) rfl ⟨rfl, HH.out.2⟩
      · by_cases hle : a2 < z
        · have hzi : ¬ (z : Int) ≤ (a2 : Int) := by omega
          have HMF2 : Hid (marksF z (k2 + 1) (ps.drop (j + 1)) = marksF 0 0 ps) := Lib.hid (by rw [← HMF.out, HST.out, hez, if_pos rfl]; dsimp only; rw [if_pos hle])
          have g0 := frzA HG4.out 0
          have g1 := frzA (setA HG4.out 0 (.int .i64 (z : Int))) 1
          have d1 := blkA (setA HG4.out 0 (.int .i64 (z : Int))) 1
          simp at d1
          have HG5 : Hid (((w4.setCell ⟨gi, 0, none⟩ (.int .i64 (z : Int))).setCell ⟨gi, 1, none⟩ (.int .i64 ((k2 + 1 : Nat) : Int))).heap[gi]? = some (.cells #[.int .i64 (z : Int), .int .i64 ((k2 + 1 : Nat) : Int), .bool false] 75 (0, 0))) := Lib.hid (by rw [setA (setA HG4.out 0 (.int .i64 (z : Int))) 1 (.int .i64 ((k2 + 1 : Nat) : Int))]; rfl)
          have HB5 := Lib.hid (below1 (below1 HB4.out (Nat.le_refl _) 0 (.int .i64 (z : Int))) (Nat.le_refl _) 1 (.int .i64 ((k2 + 1 : Nat) : Int)))
          have hk2i : (k2 : Int) ≤ 100000000 := by omega
          have HK3 : Hid ((k2 : Int) + 1 = ((k2 + 1 : Nat) : Int)) := Lib.hid (by omega)
          clear hez hstop HST HH r0 r1 r2 f0 f1 f2 HMF
          go_wp2
          rw [HK3.out]
          go_roundw
          case rel => exact ⟨j + 1, z, k2 + 1, by go_num, by omega, by omega, hz, HMF2, HB5, HG5⟩
          case measure => simp [intOf]; omega
        · have hzi : (z : Int) ≤ (a2 : Int) := by omega
          have hs := hstop (by rw [HST.out, hez, if_pos rfl]; dsimp only; rw [if_neg hle])
          obtain ⟨rfl, rfl, rfl⟩ := hs
          clear hez hstop HST
          go_wp2
          have e0 := blkA HH.out.1 0
          have e1 := blkA HH.out.1 1
          have e2 := blkA HH.out.1 2
          simp only [List.getElem?_toArray, List.getElem?_cons_zero, List.getElem?_cons_succ] at e0 e1 e2
          exact bodyPost_ret (v := .agg #[.int .i64 (a2 : Int), .int .i64 (k2 : Int), .bool false]) (by simp [results, Tryz.results42, go_sem, e0, e1, e2]) rfl ⟨rfl, HH.out.2⟩
    · have hjn : ps.drop j = [] := List.drop_eq_nil_of_le (by omega)
      have hend : a2 = a ∧ k2 = k ∧ decide (wl = s.length) = b := by
        have h1 := HM.out
        rw [← HMF.out, hjn] at h1
        exact ⟨h1.1, h1.2.1, by simpa [marksF] using h1.2.2⟩
      obtain ⟨rfl, rfl, hbb⟩ := hend
      have HBB : Hid (decide (((wl : Nat) : Int) = ((s.length : Nat) : Int)) = b) := Lib.hid (by rw [← hbb]; exact decide_eq_decide.2 (by omega))
      clear hbb
      have c0 := blkA HG.out 0
      have c1 := blkA HG.out 1
      have c2 := blkA HG.out 2
      simp only [List.getElem?_toArray, List.getElem?_cons_zero, List.getElem?_cons_succ] at c0 c1 c2
      have g2 := frzA HG.out 2
      have HG2 : Hid ((wr.setCell ⟨gi, 2, none⟩ (.bool b)).heap[gi]? = some (.cells #[.int .i64 (a2 : Int), .int .i64 (k2 : Int), .bool b] 75 (0, 0))) := Lib.hid (by rw [setA HG.out 2 (.bool b)]; rfl)
      have hfin := HFIN.out (wr.setCell ⟨gi, 2, none⟩ (.bool b)) (.int .i64 (a2 : Int)) (.int .i64 (k2 : Int)) (.bool b) (below1 HBW.out (Nat.le_refl _) 2 (.bool b)) (by simpa using hgl)
      have k0 := blkA HG2.out 0
      have k1 := blkA HG2.out 1
      have k2' := blkA HG2.out 2
      simp only [List.getElem?_toArray, List.getElem?_cons_zero, List.getElem?_cons_succ] at k0 k1 k2'
      have r0 := blkA hfin.1 0
      have r1 := blkA hfin.1 1
      have r2 := blkA hfin.1 2
      simp only [List.getElem?_toArray, List.getElem?_cons_zero, List.getElem?_cons_succ] at r0 r1 r2
      have f0 := frzA hfin.1 0
      have f1 := frzA (setA hfin.1 0 (.int .i64 (a2 : Int))) 1
      have f2 := frzA (setA (setA hfin.1 0 (.int .i64 (a2 : Int))) 1 (.int .i64 (k2 : Int))) 2
      have HH := Lib.hid (And.intro (threeA hfin.1 (.int .i64 (a2 : Int)) (.int .i64 (k2 : Int)) (.bool b)) hfin.2)
      clear hfin HG2 HFIN HM
      cases b
      · have hbw : ((wl : Int) == (s.length : Int)) = false := by rw [← HBB.out]; rfl
        have hbn : ¬ wl = s.length := by have := HBB.out; rw [decide_eq_false_iff_not] at this; omega
        clear HBB
        go_wp2
        have e0 := blkA HH.out.1 0
        have e1 := blkA HH.out.1 1
        have e2 := blkA HH.out.1 2
        simp only [List.getElem?_toArray, List.getElem?_cons_zero, List.getElem?_cons_succ] at e0 e1 e2
        exact bodyPost_ret (v := .agg #[.int .i64 (a2 : Int), .int .i64 (k2 : Int), .bool false]) (by simp [results, Tryz.results42, go_sem, e0, e1, e2]) rfl ⟨rfl, HH.out.2⟩
      · have hbw : ((wl : Int) == (s.length : Int)) = true := by rw [← HBB.out]; rfl
        have hbn : wl = s.length := by have := HBB.out; rw [decide_eq_true_eq] at this; omega
        have HBN := Lib.hid hbn
        clear HBB hbn
        go_wp2
        have e0 := blkA HH.out.1 0
        have e1 := blkA HH.out.1 1
        have e2 := blkA HH.out.1 2
        simp only [List.getElem?_toArray, List.getElem?_cons_zero, List.getElem?_cons_succ] at e0 e1 e2
        exact bodyPost_ret (v := .agg #[.int .i64 (a2 : Int), .int .i64 (k2 : Int), .bool true]) (by simp [results, Tryz.results42, go_sem, e0, e1, e2]) rfl ⟨rfl, HH.out.2⟩
end
end Go.Proofs.YtmfhipjceeijmaaGreat.A

/-
  The manifest package: keep, Raise, Epoch.
-/
namespace Go.Proofs.YtmfhipjceeijmaaGreat.A
open Go.RowKit
open D (Tx ReadsI i64B readsI_below dP)
attribute [local go_sem] ext_Bd ext_Bl ext_Bt toList_B add_B size_B get_Bt

section
variable (C : D.DC) {bs : Nat} {w : World} {p room : Nat} {l : List D.F} {S : Nat → Prop}
set_option maxRecDepth 100000 in
set_option maxHeartbeats 2000000 in
theorem keep_l (a k : Nat) (b : Bool) (z e : Nat) (l2 : List D.F) (hA : C.At bs w p room l S) (hI : D.Inv room l) (hroom : room ≤ 100000000) (hz : z ≤ far) (hE : epochD l = (a, k, b)) (H : keepD room z l = (e, l2)) :
    Calls Tryz.prog 45 #[.agg #[.int .i64 (a : Int), .int .i64 (k : Int), .bool b], dP p, .int .i64 (z : Int)] w fun x w' => x = .returned (.int .i64 (e : Int)) ∧ (∃ S2, C.At bs w' p room l2 S2 ∧ D.Grow S w S2) ∧ D.But S w w' := by
  have HB := Lib.hid ((Below.refl w.heap.size w).alloc (Nat.le_refl _) (.cells #[.int .i64 (a : Int), .int .i64 (k : Int), .bool b] 75))
  have HC := Lib.hid (heap_alloc_new w (.cells #[.int .i64 (a : Int), .int .i64 (k : Int), .bool b] 75))
  have HA := Lib.hid (C.below hA HB.out)
  have HI := Lib.hid hI
  obtain ⟨g, hge⟩ : ∃ g, w.heap.size = g := ⟨_, rfl⟩
  rw [hge] at HC
  have HGE := Lib.hid hge
  have HPG := Lib.hid (put_good hz).1
  obtain ⟨pl, hpl⟩ : ∃ pl, N.putL z = pl := ⟨_, rfl⟩
  have hK : (if b = true ∧ k ≤ 20 then D.append room markN (F.frame pl) l else replaceD room markN pl l) = (e, l2) := by
    unfold keepD at H
    rw [hE, hpl] at H
    exact H
  rw [hpl] at HPG
  have HPL := Lib.hid hpl
  have hz2 : z ≤ 1099511627776 := by unfold far at hz; omega
  clear hge hA hI hpl H hz hE
  go_enter Tryz.func45, Tryz.ntmps45
  go_upto_region 1 with (fail)
  rw [HGE.out]
  generalize w.alloc (.cells #[.int .i64 (a : Int), .int .i64 (k : Int), .bool b] 75) = W at *
  go_wp2_with fail
  refine (PutN z pl W hz2 HPL).mono ?_
  rintro x w1 ⟨rfl, hb1⟩
  have HB1 := Lib.hid (HB.out.trans (hb1.mono HB.out.size))
  have HA1 := Lib.hid (C.below HA.out hb1)
  have HC1 := Lib.hid ((hb1.block g (lt_of_block HC.out)).trans HC.out)
  clear hb1 HB HA HC
  have k0 := blkA HC1.out 0
  have k1 := blkA HC1.out 1
  have k2 := blkA HC1.out 2
  simp only [List.getElem?_toArray, List.getElem?_cons_zero, List.getElem?_cons_succ] at k0 k1 k2
  by_cases hb : b = true
  · subst hb
    by_cases hk : k ≤ 20
    · have hki : (k : Int) ≤ 20 := by omega
      have HK := Lib.hid (show D.append room markN (F.frame pl) l = (e, l2) by rw [if_pos ⟨rfl, hk⟩] at hK; exact hK)
      clear hK
      go_wp2_with fail
      refine (extend_l C markN pl e l2 HA1.out HI.out hroom (by simp [markN]) HPG.out HK.out).mono ?_
      rintro x w2 ⟨rfl, ⟨S2, hA2, hg2⟩, hb2⟩
      have HR := Lib.hid (show (∃ S2, C.At bs w2 p room l2 S2 ∧ D.Grow S w S2) ∧ D.But S w w2 from ⟨⟨S2, hA2, hg2.wide HB1.out.size⟩, (D.But.of_below HB1.out).trans hb2⟩)
      clear hA2 hg2 hb2
      go_wp2
      go_ret
      exact ⟨rfl, HR.out⟩
    · have hki : ¬ (k : Int) ≤ 20 := by omega
      have HK := Lib.hid (show replaceD room markN pl l = (e, l2) by rw [if_neg fun h => hk h.2] at hK; exact hK)
      clear hK
      go_wp2_with fail
      refine (replace_l C markN pl e l2 HA1.out HI.out hroom (by simp [markN]) HPG.out HK.out).mono ?_
      rintro x w2 ⟨rfl, ⟨S2, hA2, hg2⟩, hb2⟩
      have HR := Lib.hid (show (∃ S2, C.At bs w2 p room l2 S2 ∧ D.Grow S w S2) ∧ D.But S w w2 from ⟨⟨S2, hA2, hg2.wide HB1.out.size⟩, (D.But.of_below HB1.out).trans hb2⟩)
      clear hA2 hg2 hb2
      go_wp2
      go_ret
      exact ⟨rfl, HR.out⟩
  · obtain rfl : b = false := by simpa using hb
    have HK := Lib.hid (show replaceD room markN pl l = (e, l2) by rw [if_neg fun h => hb h.1] at hK; exact hK)
    clear hK hb
    go_wp2_with fail
    refine (replace_l C markN pl e l2 HA1.out HI.out hroom (by simp [markN]) HPG.out HK.out).mono ?_
    rintro x w2 ⟨rfl, ⟨S2, hA2, hg2⟩, hb2⟩
    have HR := Lib.hid (show (∃ S2, C.At bs w2 p room l2 S2 ∧ D.Grow S w S2) ∧ D.But S w w2 from ⟨⟨S2, hA2, hg2.wide HB1.out.size⟩, (D.But.of_below HB1.out).trans hb2⟩)
    clear hA2 hg2 hb2
    go_wp2
    go_ret
    exact ⟨rfl, HR.out⟩
set_option maxRecDepth 100000 in
set_option maxHeartbeats 1000000 in
theorem Epoch_l (a k : Nat) (b : Bool) (hA : C.At bs w p room l S) (hI : D.Inv room l) (hroom : room ≤ 100000000) (H : epochD l = (a, k, b)) :
    Calls Tryz.prog 13 #[dP p] w fun x w' => x = .returned (.int .i64 (a : Int)) ∧ Below w.heap.size w w' := by
  have HM := Lib.hid (marksOf_l C a k b hA hI hroom H)
  have kf : ∀ w1 : World, (Instr.field 75 (.agg #[.int .i64 (a : Int), .int .i64 (k : Int), .bool b]) 0).run Tryz.prog w1 = .ok (.int .i64 (a : Int)) w1 := fun w1 => by kernel_rfl
  clear hA hI H
  go_enter Tryz.func13, Tryz.ntmps13
  go_wp2_with fail
  refine HM.out.mono ?_
  rintro x w1 ⟨rfl, hb1⟩
  go_wp2
  go_ret
  exact ⟨rfl, hb1⟩
set_option maxRecDepth 100000 in
set_option maxHeartbeats 2000000 in
theorem Raise_l (z : Int) (e : Nat) (l2 : List D.F) (hA : C.At bs w p room l S) (hI : D.Inv room l) (hroom : room ≤ 100000000) (H : raiseD room z l = (e, l2)) :
    Calls Tryz.prog 17 #[dP p, .int .i64 z] w fun x w' => x = .returned (.int .i64 (e : Int)) ∧ (∃ S2, C.At bs w' p room l2 S2 ∧ D.Grow S w S2) ∧ D.But S w w' := by
  have HA := Lib.hid hA
  have HI := Lib.hid hI
  obtain ⟨⟨a, k, b⟩, hep⟩ : ∃ q, epochD l = q := ⟨_, rfl⟩
  have HEP := Lib.hid hep
  unfold raiseD at H
  by_cases hz : z < 1 ∨ (far : Int) < z
  · rw [if_pos hz] at H
    cases H
    have HBT : Hid (decide ((1 : Int) ≤ z ∧ z ≤ 274877906944) = false) := Lib.hid (by unfold far at hz; rw [decide_eq_false_iff_not]; omega)
    clear hz hA hI hep
    go_enter Tryz.func17, Tryz.ntmps17
    go_wp2_with (go_at_call 44; refine (between_l _ _ _ false _ HBT).mono ?_; rintro x w' ⟨rfl, rfl⟩)
    go_ret
    exact ⟨rfl, ⟨S, HA.out, fun _ h => .inl h⟩, D.But.refl _ _⟩
  rw [if_neg hz] at H
  obtain ⟨n, rfl⟩ : ∃ n : Nat, z = n := ⟨z.toNat, by omega⟩
  have hn : n ≤ far := by omega
  have HBT : Hid (decide ((1 : Int) ≤ (n : Int) ∧ (n : Int) ≤ 274877906944) = true) := Lib.hid (by unfold far at hz; rw [decide_eq_true_eq]; omega)
  rw [Int.toNat_natCast, hep] at H
  dsimp only at H
  have HM := Lib.hid (marksOf_l C a k b hA hI hroom hep)
  have HNF := Lib.hid hn
  clear hz hA hI hep hn
  by_cases h1 : n < a
  · have h1i : (n : Int) < (a : Int) := by omega
    rw [if_pos h1] at H
    cases H
    go_enter Tryz.func17, Tryz.ntmps17
    go_wp2_with (go_at_call 44; refine (between_l _ _ _ true _ HBT).mono ?_; rintro x w ⟨rfl, rfl⟩)
    refine HM.out.mono ?_
    rintro x w1 ⟨rfl, hb1⟩
    have HB2 := Lib.hid (hb1.alloc hb1.size (.cells #[.int .i64 (a : Int), .int .i64 (k : Int), .bool b] 75))
    have HC2 := Lib.hid (heap_alloc_new w1 (.cells #[.int .i64 (a : Int), .int .i64 (k : Int), .bool b] 75))
    go_upto_region 4 with (fail)
    generalize hW : w1.alloc (.cells #[.int .i64 (a : Int), .int .i64 (k : Int), .bool b] 75) = W at *
    have k0 := blkA HC2.out 0
    simp only [List.getElem?_toArray, List.getElem?_cons_zero] at k0
    clear hW
    go_wp2
    go_ret
    exact ⟨rfl, ⟨S, C.below HA.out HB2.out, fun _ h => .inl h⟩, D.But.of_below HB2.out⟩
  · have h1i : ¬ (n : Int) < (a : Int) := by omega
    rw [if_neg h1] at H
    by_cases h2 : a < n
    · have h2i : (a : Int) < (n : Int) := by omega
      rw [if_pos h2] at H
      obtain ⟨⟨e1, l1⟩, hk⟩ : ∃ q, keepD room n l = q := ⟨_, rfl⟩
      rw [hk] at H
      dsimp only at H
      have HK := Lib.hid hk
      have HI1 := Lib.hid (show D.Inv room l1 by have := keep_inv (room := room) (e := n) HI.out; rw [hk] at this; exact this)
      clear hk
      go_enter Tryz.func17, Tryz.ntmps17
      go_wp2_with (go_at_call 44; refine (between_l _ _ _ true _ HBT).mono ?_; rintro x w ⟨rfl, rfl⟩)
      refine HM.out.mono ?_
      rintro x w1 ⟨rfl, hb1⟩
      have HB2 := Lib.hid (hb1.alloc hb1.size (.cells #[.int .i64 (a : Int), .int .i64 (k : Int), .bool b] 75))
      have HC2 := Lib.hid (heap_alloc_new w1 (.cells #[.int .i64 (a : Int), .int .i64 (k : Int), .bool b] 75))
      go_upto_region 4 with (fail)
      generalize hW : w1.alloc (.cells #[.int .i64 (a : Int), .int .i64 (k : Int), .bool b] 75) = W at *
      have k0 := blkA HC2.out 0
      have k1 := blkA HC2.out 1
      have k2 := blkA HC2.out 2
      simp only [List.getElem?_toArray, List.getElem?_cons_zero, List.getElem?_cons_succ] at k0 k1 k2
      have HA2 := Lib.hid (C.below HA.out HB2.out)
      clear hW hb1 HM
      go_wp2_with fail
      refine (keep_l C a k b n e1 l1 HA2.out HI.out hroom HNF.out HEP.out HK.out).mono ?_
      rintro x w3 ⟨rfl, ⟨S3, hA3, hg3⟩, hb3⟩
      have HA3 := Lib.hid hA3
      have HG3 := Lib.hid (hg3.wide HB2.out.size)
      have HB3 := Lib.hid ((D.But.of_below (S := S) HB2.out).trans hb3)
      clear hA3 hg3 hb3 k0 k1 k2
      by_cases h0 : e1 = 0
      · subst h0
        rw [if_pos rfl] at H
        have HSY := Lib.hid H
        clear H
        go_wp2_with fail
        refine (C.sync markN e l2 HA3.out HI1.out (by omega) (by simp [markN]) HSY.out).mono ?_
        rintro x w4 ⟨rfl, ⟨S4, hA4, hg4⟩, hb4⟩
        have HR := Lib.hid (show (∃ S2, C.At bs w4 p room l2 S2 ∧ D.Grow S w S2) ∧ D.But S w w4 from ⟨⟨S4, hA4, HG3.out.next hg4 HB3.out.size⟩, HB3.out.next hb4 HG3.out⟩)
        clear hA4 hg4 hb4
        go_wp2
        go_ret
        exact ⟨rfl, HR.out⟩
      · rw [if_neg h0] at H
        cases H
        have hei : ((e : Int) == 0) = false := beq_eq_false_iff_ne.2 (by omega)
        have hen : ¬ (e : Int) = 0 := by omega
        have HR := Lib.hid (show (∃ S2, C.At bs w3 p room l2 S2 ∧ D.Grow S w S2) ∧ D.But S w w3 from ⟨⟨S3, HA3.out, HG3.out⟩, HB3.out⟩)
        clear h0
        go_wp2
        go_ret
        exact ⟨rfl, HR.out⟩
    · have h2i : ¬ (a : Int) < (n : Int) := by omega
      rw [if_neg h2] at H
      have HSY := Lib.hid H
      clear H
      go_enter Tryz.func17, Tryz.ntmps17
      go_wp2_with (go_at_call 44; refine (between_l _ _ _ true _ HBT).mono ?_; rintro x w ⟨rfl, rfl⟩)
      refine HM.out.mono ?_
      rintro x w1 ⟨rfl, hb1⟩
      have HB2 := Lib.hid (hb1.alloc hb1.size (.cells #[.int .i64 (a : Int), .int .i64 (k : Int), .bool b] 75))
      have HC2 := Lib.hid (heap_alloc_new w1 (.cells #[.int .i64 (a : Int), .int .i64 (k : Int), .bool b] 75))
      go_upto_region 4 with (fail)
      generalize hW : w1.alloc (.cells #[.int .i64 (a : Int), .int .i64 (k : Int), .bool b] 75) = W at *
      have k0 := blkA HC2.out 0
      simp only [List.getElem?_toArray, List.getElem?_cons_zero] at k0
      have HA2 := Lib.hid (C.below HA.out HB2.out)
      clear hW hb1 HM
      go_wp2_with fail
      refine (C.sync markN e l2 HA2.out HI.out (by omega) (by simp [markN]) HSY.out).mono ?_
      rintro x w4 ⟨rfl, ⟨S4, hA4, hg4⟩, hb4⟩
      have HR := Lib.hid (show (∃ S2, C.At bs w4 p room l2 S2 ∧ D.Grow S w S2) ∧ D.But S w w4 from ⟨⟨S4, hA4, hg4.wide HB2.out.size⟩, (D.But.of_below HB2.out).trans hb4⟩)
      clear hA4 hg4 hb4
      go_wp2
      go_ret
      exact ⟨rfl, HR.out⟩
end
end Go.Proofs.YtmfhipjceeijmaaGreat.A

/-
  Helpers of chapter 10's laws: pick, begun, sameInts, shown.
-/
namespace Go.Proofs.YtmfhipjceeijmaaGreat.A
open Go.RowKit
open D (Tx ReadsI i64B readsI_below dP)
attribute [local go_sem] ext_Bd ext_Bl ext_Bt toList_B add_B size_B get_Bt

def pickN (c : Int) (n : Nat) : Nat := (if c < 0 then -(c + 1) else c).toNat % n
theorem pickN_lt (c : Int) {n : Nat} (h : 0 < n) : pickN c n < n := Nat.mod_lt _ h
set_option maxHeartbeats 1000000 in
set_option maxRecDepth 100000 in
theorem pick10_l (c : Int) (n : Nat) (k : Nat) (w : World) (hc : i64B c) (hn : 0 < n) (hn2 : n ≤ 1000000) (H : Hid (pickN c n = k)) :
    Calls Tryz.prog 7 #[.int .i64 c, .int .i64 (n : Int)] w fun x w' => x = .returned (.int .i64 (k : Int)) ∧ w' = w := by
  obtain ⟨h1, h2⟩ := hc
  have hn0 : ((n : Int) == 0) = false := beq_eq_false_iff_ne.2 (by omega)
  have hn1 : ¬ (n : Int) = 0 := by omega
  by_cases h : c < 0
  · have HE : Hid (Int.tmod (-(c + 1)) (n : Int) = (k : Int)) := Lib.hid (by
      rw [← H.out]
      unfold pickN
      rw [if_pos h, Int.tmod_eq_emod_of_nonneg (by omega), Int.natCast_emod, Int.toNat_of_nonneg (by omega)])
    go_enter Tryz.func7, Tryz.ntmps7
    go_wp2
    go_ret
    rw [← HE.out, Int.neg_tmod]
    exact ⟨rfl, rfl⟩
  · have HE : Hid (c % (n : Int) = (k : Int)) := Lib.hid (by
      rw [← H.out]
      unfold pickN
      rw [if_neg h, Int.natCast_emod, Int.toNat_of_nonneg (by omega)])
    go_enter Tryz.func7, Tryz.ntmps7
    go_wp2
    go_ret
    rw [← HE.out]
    exact ⟨rfl, rfl⟩
set_option maxHeartbeats 2000000 in
set_option maxRecDepth 100000 in
theorem mNew10 (room : Nat) (w : World) (h1 : 1 ≤ room) (h2 : room ≤ 1073741824) :
    Calls Tryz.prog 19 #[.int .i64 (room : Int)] w fun x w' => x = .returned (.tuple #[.pointer (some ⟨w.heap.size, 0, none⟩), .int .i64 0]) ∧ w'.heap[w.heap.size]? = some (.cells #[.slice none 0 0, .int .i64 (room : Int)] 85 (0, 0)) ∧ Below w.heap.size w w' := by
  have h1i : (1 : Int) ≤ (room : Int) := by omega
  have h2i : (room : Int) ≤ 1073741824 := by omega
  go_enter Tryz.func19, Tryz.ntmps19
  go_wp2
  go_ret2
  exact ⟨rfl, World.alloc_heap_new w _, (Below.refl _ w).alloc (Nat.le_refl _) _⟩
set_option maxHeartbeats 4000000 in
set_option maxRecDepth 100000 in
theorem begun10_l (C : D.DC) {bs : Nat} (room : Nat) (w : World) (hb : bs ≤ w.heap.size) (h1 : 1 ≤ room) (h2 : room ≤ 1073741824) :
    Calls Tryz.prog 6 #[.int .i64 (room : Int)] w fun x w' => (∃ p m S, x = .returned (.tuple #[.agg #[dP p, .pointer (some ⟨m, 0, none⟩)], .bool true]) ∧ C.At bs w' p room [] S ∧ w'.heap[m]? = some (.cells #[.slice none 0 0, .int .i64 (room : Int)] 85 (0, 0)) ∧ bs ≤ m ∧ ¬ S m) ∧ Below w.heap.size w w' := by
  have HB := Lib.hid hb
  clear hb
  have HB0 := Lib.hid ((Below.refl w.heap.size w).alloc (Nat.le_refl _) (.cells #[.pointer none, .pointer none] 28))
  have HX0 := Lib.hid (heap_alloc_new w (.cells #[.pointer none, .pointer none] 28))
  have HS0 : Hid ((w.alloc (.cells #[.pointer none, .pointer none] 28)).heap.size = w.heap.size + 1) := Lib.hid (by simp)
  have HNEW := Lib.hid (C.new_ok (bs := bs) (w := w.alloc (.cells #[.pointer none, .pointer none] 28)) room (Nat.le_trans HB.out HB0.out.size) h1 h2)
  go_enter Tryz.func6, Tryz.ntmps6
  go_wp2_with fail
  generalize w.alloc (.cells #[.pointer none, .pointer none] 28) = w0 at *
  refine HNEW.out.mono ?_
  rintro x w1 ⟨⟨p, S, rfl, hd, hS⟩, hb1⟩
  rw [HS0.out] at hS
  have HS := Lib.hid hS
  have HD1 := Lib.hid hd
  have HB1 := Lib.hid (HB0.out.trans (hb1.mono HB0.out.size))
  have HX1 : Hid (w1.heap[w.heap.size]? = some (.cells #[.pointer none, .pointer none] 28 (0, 0))) := Lib.hid ((hb1.block _ (by rw [HS0.out]; omega)).trans HX0.out)
  have hs1 : w.heap.size < w1.heap.size := lt_of_block HX1.out
  clear hd hS hb1 HNEW HX0 HB0
  go_wp2_with fail
  refine (mNew10 room w1 h1 h2).mono ?_
  rintro x w2 ⟨rfl, hm, hb2⟩
  have HM := Lib.hid hm
  have HD2 := Lib.hid (C.below HD1.out hb2)
  have HB2 := Lib.hid (HB1.out.trans (hb2.mono HB1.out.size))
  have HX2 : Hid (w2.heap[w.heap.size]? = some (.cells #[.pointer none, .pointer none] 28 (0, 0))) := Lib.hid ((hb2.block _ hs1).trans HX1.out)
  have HNS : Hid (¬ S w1.heap.size) := Lib.hid fun h => by have := (C.low HD1.out h).2; omega
  obtain ⟨m, hme⟩ : ∃ m, w1.heap.size = m := ⟨_, rfl⟩
  rw [hme] at HM HNS hs1
  rw [hme]
  clear hm hb2 HD1 HB1 HX1 hme
  have z0 : w2.cell? ⟨w.heap.size, 0, none⟩ = some (.pointer none) := by simp [World.cell?, HX2.out]
  have z1 : w2.cell? ⟨w.heap.size, 1, none⟩ = some (.pointer none) := by simp [World.cell?, HX2.out]
  have f0 : w2.frozen? ⟨w.heap.size, 0, none⟩ = false := by simp [World.frozen?, HX2.out]
  have f1 : w2.frozen? ⟨w.heap.size, 1, none⟩ = false := by simp [World.frozen?, HX2.out]
  have HW3 : Hid (Below w.heap.size w ((w2.setCell ⟨w.heap.size, 0, none⟩ (dP p)).setCell ⟨w.heap.size, 1, none⟩ (.pointer (some ⟨m, 0, none⟩)))) := Lib.hid ⟨HB2.out.os, HB2.out.tape, HB2.out.output, by simpa using HB2.out.size, fun k hk => by
    rw [Below.heap_setCell _ _ _ _ (by show k ≠ w.heap.size; omega), Below.heap_setCell _ _ _ _ (by show k ≠ w.heap.size; omega)]
    exact HB2.out.block k hk⟩
  have HD3 := Lib.hid (C.keep HD2.out (w' := (w2.setCell ⟨w.heap.size, 0, none⟩ (dP p)).setCell ⟨w.heap.size, 1, none⟩ (.pointer (some ⟨m, 0, none⟩))) (by simp) fun k hk => by
    have := HS.out k hk
    rw [Below.heap_setCell _ _ _ _ (by show k ≠ w.heap.size; omega), Below.heap_setCell _ _ _ _ (by show k ≠ w.heap.size; omega)])
  have HM3 : Hid (((w2.setCell ⟨w.heap.size, 0, none⟩ (dP p)).setCell ⟨w.heap.size, 1, none⟩ (.pointer (some ⟨m, 0, none⟩))).heap[m]? = some (.cells #[.slice none 0 0, .int .i64 (room : Int)] 85 (0, 0))) := Lib.hid (by
    rw [Below.heap_setCell _ _ _ _ (by show m ≠ w.heap.size; omega), Below.heap_setCell _ _ _ _ (by show m ≠ w.heap.size; omega)]
    exact HM.out)
  have e1 := twoA HX2.out (dP p) (.pointer (some ⟨m, 0, none⟩))
  have k0 := e1.1
  have k1 := e1.2
  have HMB : Hid (bs ≤ m) := Lib.hid (by have := HB.out; omega)
  go_wp2
  refine bodyPost_ret (v := .tuple #[.agg #[dP p, .pointer (some ⟨m, 0, none⟩)], .bool true]) (by simp [results, Tryz.results6, go_sem, k0, k1]) rfl ⟨⟨p, m, S, rfl, HD3.out, HM3.out, HMB.out, HNS.out⟩, HW3.out⟩

theorem but_low {S : Nat → Prop} {w wr w' : World} (h : Below w.heap.size w wr) (hb : D.But S wr w') (hS : ∀ k, S k → w.heap.size ≤ k) : Below w.heap.size w w' :=
  ⟨hb.os.trans h.os, hb.tape.trans h.tape, hb.output.trans h.output, Nat.le_trans h.size hb.size, fun k hk => (hb.block k (Nat.lt_of_lt_of_le hk h.size) fun hs => by have := hS k hs; omega).trans (h.block k hk)⟩
/-- A disk at work: where it lies, the law's block that tells it. -/
structure OnA (C : D.DC) (w0 : World) (room p ga : Nat) (wr : World) (l : List D.F) (S : Nat → Prop) : Prop where
  at_ : C.At w0.heap.size wr p room l S
  pa : wr.cell? ⟨ga, 0, none⟩ = some (dP p)
  na : ¬ S ga
  bel : Below w0.heap.size w0 wr
section
variable {C : D.DC} {w0 : World} {room p ga : Nat} {wr w' : World} {l l2 : List D.F} {S S2 : Nat → Prop}
theorem OnA.lo (h : OnA C w0 room p ga wr l S) : ∀ k, S k → w0.heap.size ≤ k := fun _ hk => (C.low h.at_ hk).1
theorem OnA.next (h : OnA C w0 room p ga wr l S) (hd : C.At w0.heap.size w' p room l2 S2) (hg : D.Grow S wr S2) (hb : D.But S wr w') : OnA C w0 room p ga w' l2 S2 :=
  ⟨hd, cellA h.pa hb h.na, fun h1 => by
    rcases hg ga h1 with h3 | h3
    · exact h.na h3
    · have := World.block_lt_of_cell? _ _ h.pa
      dsimp only at this
      omega, but_low h.bel hb h.lo⟩
theorem OnA.below (h : OnA C w0 room p ga wr l S) (hb : Below wr.heap.size wr w') : OnA C w0 room p ga w' l S := h.next (C.below h.at_ hb) (fun _ h => .inl h) (D.But.of_below hb)
theorem OnA.drew (h : OnA C w0 room p ga wr l S) : OnA C w0 room p ga wr.drew l S :=
  ⟨C.keep (w' := wr.drew) h.at_ (Nat.le_refl _) (fun _ _ => rfl), h.pa, h.na, ⟨h.bel.os, h.bel.tape, h.bel.output, h.bel.size, h.bel.block⟩⟩
/-- A block that stands by and is none of the disk's stays. -/
theorem offA {wr : World} {S S2 : Nat → Prop} (hg : D.Grow S wr S2) {k : Nat} (hk : k < wr.heap.size) (hs : ¬ S k) : ¬ S2 k := fun h1 => by
  rcases hg k h1 with h3 | h3
  · exact hs h3
  · omega
end
theorem same_at {xs ys : List Int} {k : Nat} (h : k < xs.length) (h2 : k < ys.length) (hp : xs.take k = ys.take k) : xs.take (k + 1) = ys.take (k + 1) ↔ xs[k] = ys[k] := by
  rw [List.take_succ_eq_append_getElem h, List.take_succ_eq_append_getElem h2, hp]
  exact ⟨fun e => (List.cons.inj (List.append_cancel_left e)).1, fun e => by rw [e]⟩
set_option maxHeartbeats 1000000 in
set_option maxRecDepth 100000 in
theorem sameInts_l (xs ys : List Int) (va vb : Value) (b : Bool) (w : World) (ha : ReadsI w va xs) (hb : ReadsI w vb ys) (hl : xs.length ≤ 1000000) (H : Hid (decide (xs = ys) = b)) :
    Calls Tryz.prog 12 #[va, vb] w fun x w' => x = .returned (.bool b) ∧ Below w.heap.size w w' := by
  obtain ⟨a, c, rfl, hx⟩ := ha
  obtain ⟨a2, c2, rfl, hy⟩ := hb
  have HX := Lib.hid hx
  have HY := Lib.hid hy
  clear hx hy
  by_cases hn : xs.length = ys.length
  · have HN := Lib.hid hn
    go_enter Tryz.func12, Tryz.ntmps12
    rw [← hn]
    clear hn
    go_wp2
    go_loopw [5] (fun i wr => ∃ k : Nat, i = .int .i64 k ∧ k ≤ xs.length ∧ Hid (xs.take k = ys.take k) ∧ Hid (Below w.heap.size w wr)) (fun i _ => xs.length - (intOf i).toNat)
    case atStart => exact ⟨0, rfl, Nat.zero_le _, Lib.hid rfl, Lib.hid (by first | exact Below.refl _ _ | exact (Below.refl _ w).drew)⟩
    case round =>
      obtain ⟨k, rfl, hk, HP, HB⟩ := hrel
      by_cases hlt : k < xs.length
      · have hlt2 : k < ys.length := by have := HN.out; omega
        have hi1 : (k : Int) < (xs.length : Int) := by omega
        obtain ⟨-, b1, o1, rfl, h1⟩ := HX.out k hlt
        obtain ⟨-, b2, o2, rfl, h2⟩ := HY.out k hlt2
        have q1 := keepsA HB.out _ _ h1
        have q2 := keepsA HB.out _ _ h2
        have HS := Lib.hid (same_at hlt hlt2 HP.out)
        have HNE : Hid (xs[k] ≠ ys[k] → b = false) := Lib.hid fun h => by
          rw [← H.out]
          exact decide_eq_false fun e => h (by subst e; rfl)
        clear h1 h2
        generalize xs[k] = u at *
        generalize ys[k] = v at *
        by_cases he : u = v
        · subst he
          have HT := Lib.hid (HS.out.2 rfl)
          go_wp2
          go_region
          all_goals
            go_wp2
            go_roundw
            case rel => exact ⟨k + 1, by go_num, by omega, HT, Lib.hid (by first | exact HB.out | exact HB.out.drew)⟩
            case measure => simp [intOf]; omega
        · have hne : (u != v) = true := by simp [he]
          have hne2 : (u == v) = false := beq_eq_false_iff_ne.2 he
          have HE := Lib.hid (HNE.out he)
          go_wp2
          go_region
          all_goals
            go_wp2
            go_ret
            rw [HE.out]
            exact ⟨rfl, by first | exact HB.out | exact HB.out.drew⟩
      · have HE : Hid (b = true) := Lib.hid (by
          rw [← H.out, decide_eq_true_eq]
          have h1 := HP.out
          rw [List.take_of_length_le (by omega), List.take_of_length_le (by have := HN.out; omega)] at h1
          exact h1)
        go_wp2
        go_ret
        rw [HE.out]
        exact ⟨rfl, HB.out⟩
  · have hne : ((xs.length : Int) == (ys.length : Int)) = false := beq_eq_false_iff_ne.2 (by omega)
    have hnn : ¬ xs.length = ys.length := hn
    have HE : Hid (b = false) := Lib.hid (by rw [← H.out]; exact decide_eq_false fun e => hn (by rw [e]))
    go_enter Tryz.func12, Tryz.ntmps12
    go_wp2
    go_ret
    rw [HE.out]
    exact ⟨rfl, Below.refl _ _⟩
theorem load_none : loadD [] = (0, 1, []) := rfl
set_option maxHeartbeats 4000000 in
set_option maxRecDepth 100000 in
theorem shown10_l (C : D.DC) (w : World) :
    Calls Tryz.prog 4 #[] w fun x w' => x = .returned (.bool true) ∧ Below w.heap.size w w' := by
  obtain ⟨l1, hr1, hep1⟩ := (Ep.start).raise (room := 1000) (by omega) (z := 3) (by omega) (by unfold far; omega) (by omega)
  have hr2 : raiseD 1000 2 l1 = (10, l1) := hep1.low (by omega) (by unfold far; omega) (by simp)
  have he1 : (epochD l1).1 = 3 := hep1.epoch
  have HR1 := Lib.hid hr1
  have HR2 := Lib.hid hr2
  have HI1 := Lib.hid (hep1.inv (room := 1000) (by omega))
  obtain ⟨⟨q1, q2, q3⟩, heq⟩ : ∃ q, epochD l1 = q := ⟨_, rfl⟩
  have hq1 : q1 = 3 := by rw [heq] at he1; exact he1
  subst hq1
  have HEP := Lib.hid heq
  clear hr1 hr2 he1 heq hep1
  go_enter Tryz.func4, Tryz.ntmps4
  go_wp2_with fail
  refine (begun10_l C (bs := w.heap.size) 1000 w (Nat.le_refl _) (by omega) (by omega)).mono ?_
  rintro x w2 ⟨⟨p, m, S, rfl, hd, -, -, -⟩, hb2⟩
  have hal : Below w2.heap.size w2 (w2.alloc (.cells #[dP p, .pointer (some ⟨m, 0, none⟩)] 28)) := (Below.refl _ _).alloc (Nat.le_refl _) _
  have hnew := heap_alloc_new w2 (.cells #[dP p, .pointer (some ⟨m, 0, none⟩)] 28)
  have HO : Hid (OnA C w 1000 p w2.heap.size (w2.alloc (.cells #[dP p, .pointer (some ⟨m, 0, none⟩)] 28)) [] S) := Lib.hid ⟨C.below hd hal, by rw [blkA hnew]; rfl, fun h => by have := (C.low hd h).2; omega, hb2.trans (hal.mono hb2.size)⟩
  clear hd hb2 hal hnew
  go_upto_region 2 with (fail)
  generalize w2.alloc (.cells #[dP p, .pointer (some ⟨m, 0, none⟩)] 28) = w3 at *
  generalize w2.heap.size = ga at *
  have c3 := HO.out.pa
  go_wp2_with fail
  refine (Load_l C 0 1 [] HO.out.at_ (D.inv_nil _) (by omega) load_none).mono ?_
  rintro x w4 ⟨⟨v, rfl, hown⟩, hb4⟩
  obtain ⟨a, cap, hv, -⟩ := reads_own hown
  simp only [intCells, List.map_nil, List.length_nil] at hv
  subst hv
  have hal4 : Below w4.heap.size w4 (w4.alloc (.cells #[.int .i64 ((1 : Nat) : Int), .slice a 0 cap] 37)) := (Below.refl _ _).alloc (Nat.le_refl _) _
  have hnew4 := heap_alloc_new w4 (.cells #[.int .i64 ((1 : Nat) : Int), .slice a 0 cap] 37)
  have HO5 := Lib.hid ((HO.out.below hb4).below hal4)
  have HN5 := Lib.hid hnew4
  clear hown hb4 hal4 hnew4 c3 HO
  go_upto_region 5 with (fail)
  generalize w4.alloc (.cells #[.int .i64 ((1 : Nat) : Int), .slice a 0 cap] 37) = w5 at *
  generalize w4.heap.size = gm at *
  have d0 := blkA HN5.out 0
  have d1 := blkA HN5.out 1
  simp only [List.getElem?_toArray, List.getElem?_cons_zero, List.getElem?_cons_succ] at d0 d1
  have c5 := HO5.out.pa
  clear HN5
  go_wp2_with fail
  refine (Raise_l C 3 0 l1 HO5.out.at_ (D.inv_nil _) (by omega) HR1.out).mono ?_
  rintro x w6 ⟨rfl, ⟨S6, hA6, hg6⟩, hb6⟩
  have HO6 := Lib.hid (HO5.out.next hA6 hg6 hb6)
  clear hA6 hg6 hb6 c5 HO5
  have c6 := HO6.out.pa
  go_wp2_with fail
  refine (Raise_l C 2 10 l1 HO6.out.at_ HI1.out (by omega) HR2.out).mono ?_
  rintro x w7 ⟨rfl, ⟨S7, hA7, hg7⟩, hb7⟩
  have HO7 := Lib.hid (HO6.out.next hA7 hg7 hb7)
  clear hA7 hg7 hb7 c6 HO6
  have c7 := HO7.out.pa
  go_wp2_with fail
  refine (Epoch_l C 3 q2 q3 HO7.out.at_ HI1.out (by omega) HEP.out).mono ?_
  rintro x w8 ⟨rfl, hb8⟩
  have HO8 := Lib.hid (HO7.out.below hb8)
  clear hb8 c7 HO7
  go_wp2
  go_ret
  exact ⟨rfl, HO8.out.bel⟩
end Go.Proofs.YtmfhipjceeijmaaGreat.A
