/-
  The manifest package: Load, epochOf, marksOf, keep, Raise, Epoch.
-/
import Derived.Test.YtmfhipjceeijmaaManCode3
import Derived.Test.YtmfhipjceeijmaaFrameScan2
namespace Go.Proofs.Ytmfhipjceeijmaa.A
open Go.RowKit
open D (Tx ReadsI i64B readsI_below dP)
attribute [local go_sem] ext_Bd ext_Bl ext_Bt toList_B add_B size_B get_Bt

theorem own_set2 {w : World} {base g : Nat} {e : TypeId} {v : Value} {n : Nat} {ys : List Value} (h : w.ownsRow base e 1 v n ys) (hg : g < base) (x y : Value) : ((w.setCell ⟨g, 0, none⟩ x).setCell ⟨g, 1, none⟩ y).ownsRow base e 1 v n ys := by
  have hne : ∀ q, v.ownBlock = some q → g ≠ q := fun q e => by have := (h.lt q e).1; omega
  have h2 := h.kept (Lib.grownBy_setCell w g 0 x) (.inr fun e => hne _ e rfl)
  exact h2.kept (Lib.grownBy_setCell _ g 1 y) (.inr fun e => hne _ e rfl)
section
variable (C : D.DC) {bs : Nat} {w : World} {p room : Nat} {l : List D.F} {S : Nat → Prop}
theorem loadD_of {l : List D.F} {e n : Nat} {segs : List Nat} (H : loadD l = (e, n, segs)) :
    (D.read fileN l = ([], 6) ∧ e = 0 ∧ n = 1 ∧ segs = []) ∨ ∃ s, D.read fileN l = (s, 0) ∧ (∃ f ∈ l, f.data = s) ∧ ((∃ e1, F.take s = .bad e1 ∧ 0 < e1 ∧ e = 2 ∧ n = 0 ∧ segs = []) ∨ (∃ pl r, F.take s = .ok pl r ∧ r ≠ [] ∧ e = 2 ∧ n = 0 ∧ segs = []) ∨ (∃ pl, F.take s = .ok pl [] ∧ loadR (loadP pl) = (e, n, segs))) := by
  unfold loadD at H
  cases hf : D.find fileN l with
  | none =>
    rw [hf] at H
    cases H
    exact .inl ⟨by unfold D.read; rw [hf], rfl, rfl, rfl⟩
  | some f =>
    rw [hf] at H
    dsimp only at H
    refine .inr ⟨f.data, by unfold D.read; rw [hf], ⟨f, (D.find_some hf).1, rfl⟩, ?_⟩
    rcases F.take_cases f.data with ⟨e1, hs, he⟩ | ⟨pl, r, hs⟩
    · rw [loadL_bad hs] at H
      cases H
      exact .inl ⟨e1, hs, he, rfl, rfl, rfl⟩
    · by_cases hr : r = []
      · subst hr
        rw [loadL_ok hs] at H
        exact .inr (.inr ⟨pl, hs, H⟩)
      · rw [loadL_rest hs hr] at H
        cases H
        exact .inr (.inl ⟨pl, r, hs, hr, rfl, rfl, rfl⟩)
theorem data_le {room : Nat} {l : List D.F} {f : D.F} (hI : D.Inv room l) (hf : f ∈ l) : f.data.length ≤ room := by
  have h2 := D.used_del (n := f.name) hI.sorted
  rw [D.find_mem hI.sorted hf] at h2
  have := hI.room
  simp only [D.lenAt] at h2
  omega
set_option maxRecDepth 100000 in
set_option maxHeartbeats 4000000 in
theorem Load_l (e n : Nat) (segs : List Nat) (hA : C.At bs w p room l S) (hI : D.Inv room l) (hroom : room ≤ 100000000) (H : loadD l = (e, n, segs)) :
    Calls Try.prog 12 #[dP p] w fun x w' => (∃ v, x = .returned (.tuple #[.agg #[.int .i64 (n : Int), v], .int .i64 (e : Int)]) ∧ w'.ownsRow w.heap.size 3 1 v segs.length (intCells segs)) ∧ Below w.heap.size w w' := by
  have HB := Lib.hid ((Below.refl w.heap.size w).alloc (Nat.le_refl _) (.cells #[.int .i64 0, .slice none 0 0] 33))
  have HC := Lib.hid (heap_alloc_new w (.cells #[.int .i64 0, .slice none 0 0] 33))
  have HA := Lib.hid (C.below hA HB.out)
  have HI := Lib.hid hI
  obtain ⟨rb, hrb⟩ : ∃ rb, w.heap.size = rb := ⟨_, rfl⟩
  rw [hrb] at HC
  have HRB := Lib.hid hrb
  have hcase := loadD_of H
  have HLT : Hid (rb < (w.alloc (.cells #[.int .i64 0, .slice none 0 0] 33)).heap.size) := Lib.hid (by rw [← hrb]; simp)
  clear hrb hA hI H
  have HFIN : Hid (∀ (W w' : World) (x y : Value), Below w.heap.size w W → rb < W.heap.size → W.heap[rb]? = some (.cells #[.int .i64 0, .slice none 0 0] 33 (0, 0)) → Below W.heap.size W w' → (w'.heap[rb]? = some (.cells #[.int .i64 0, .slice none 0 0] 33 (0, 0)) ∧ Below w.heap.size w ((w'.setCell ⟨rb, 0, none⟩ x).setCell ⟨rb, 1, none⟩ y))) := Lib.hid fun W w' x y h1 h2 h3 hb => ⟨(hb.block rb h2).trans h3, belowA (h1.trans (hb.mono h1.size)) (by rw [HRB.out]; exact Nat.le_refl _) x y⟩
  rcases hcase with ⟨hrd, rfl, rfl, rfl⟩ | ⟨s, hrd, ⟨f, hfm, hfs⟩, hcase⟩
  · have HRD := Lib.hid hrd
    clear hrd
    go_enter Try.func12, Try.ntmps12
    go_wp2_with fail
    rw [HRB.out]
    generalize w.alloc (.cells #[.int .i64 0, .slice none 0 0] 33) = W at *
    refine (bytesOf_l C fileN [] 6 false HA.out HI.out hroom (by simp [fileN]) HRD.out (Lib.hid rfl)).mono ?_
    rintro x w1 ⟨rfl, hb1⟩
    obtain ⟨hres, hbel⟩ := HFIN.out W w1 (.int .i64 1) (.slice none 0 0) HB.out HLT.out HC.out hb1
    have r0 := blkA hres 0
    have r1 := blkA hres 1
    simp only [List.getElem?_toArray, List.getElem?_cons_zero, List.getElem?_cons_succ] at r0 r1
    have f0 := frzA hres 0
    have f1 := frzA (setA hres 0 (.int .i64 1)) 1
    have HH := Lib.hid (And.intro hres hbel)
    clear hres hbel hb1 HFIN
    go_wp2
    obtain ⟨e0, e1⟩ := twoA HH.out.1 (.int .i64 1) (.slice none 0 0)
    exact bodyPost_ret (v := .tuple #[.agg #[.int .i64 1, .slice none 0 0], .int .i64 0]) (by simp [results, Try.results12, go_sem, e0, e1]) rfl ⟨⟨_, rfl, ⟨rfl, .inl ⟨rfl, rfl⟩⟩⟩, HH.out.2⟩
  · have HRD := Lib.hid hrd
    have hsl : s.length ≤ 100000000 := by rw [← hfs]; have := data_le HI.out hfm; omega
    clear hrd hfm hfs
    go_enter Try.func12, Try.ntmps12
    go_wp2_with fail
    rw [HRB.out]
    generalize w.alloc (.cells #[.int .i64 0, .slice none 0 0] 33) = W at *
    refine (bytesOf_l C fileN s 0 true HA.out HI.out hroom (by simp [fileN]) HRD.out (Lib.hid rfl)).mono ?_
    rintro x w1 ⟨rfl, hb1⟩
    have HB1 := Lib.hid hb1
    clear hb1
    rcases hcase with ⟨e1, hs, he, rfl, rfl, rfl⟩ | ⟨pl, r, hs, hr, rfl, rfl, rfl⟩ | ⟨pl, hs, hm⟩
    · have hei : ((e1 : Int) == 0) = false := beq_eq_false_iff_ne.2 (by omega)
      have hen : ¬ (e1 : Int) = 0 := by omega
      have HT := Lib.hid (show ftRes (F.take s) = .tuple #[.string (B []), .string (B []), .int .i64 (e1 : Int)] by rw [hs, show ftRes (.bad e1) = _ from ftRes_bad e1])
      clear hs he
      go_wp2_with fail
      refine (FTake_at s _ w1 hsl HT).mono ?_
      rintro x w2 ⟨rfl, hb2⟩
      obtain ⟨hres, hbel⟩ := HFIN.out W w2 (.int .i64 0) (.slice none 0 0) HB.out HLT.out HC.out (HB1.out.trans (hb2.mono HB1.out.size))
      have r0 := blkA hres 0
      have r1 := blkA hres 1
      simp only [List.getElem?_toArray, List.getElem?_cons_zero, List.getElem?_cons_succ] at r0 r1
      have f0 := frzA hres 0
      have f1 := frzA (setA hres 0 (.int .i64 0)) 1
      have HH := Lib.hid (And.intro hres hbel)
      clear hres hbel hb2 HFIN
      go_wp2
      obtain ⟨e0, e2⟩ := twoA HH.out.1 (.int .i64 0) (.slice none 0 0)
      exact bodyPost_ret (v := .tuple #[.agg #[.int .i64 0, .slice none 0 0], .int .i64 2]) (by simp [results, Try.results12, go_sem, e0, e2]) rfl ⟨⟨_, rfl, ⟨rfl, .inl ⟨rfl, rfl⟩⟩⟩, HH.out.2⟩
    · have HT := Lib.hid (show ftRes (F.take s) = .tuple #[.string (B pl), .string (B r), .int .i64 0] by rw [hs, show ftRes (.ok pl r) = _ from ftRes_ok pl r])
      have hrb : (r == ([] : Tx)) = false := by cases r with | nil => exact absurd rfl hr | cons a b => rfl
      have hrn : (r != ([] : Tx)) = true := by cases r with | nil => exact absurd rfl hr | cons a b => rfl
      clear hs
      go_wp2_with fail
      refine (FTake_at s _ w1 hsl HT).mono ?_
      rintro x w2 ⟨rfl, hb2⟩
      obtain ⟨hres, hbel⟩ := HFIN.out W w2 (.int .i64 0) (.slice none 0 0) HB.out HLT.out HC.out (HB1.out.trans (hb2.mono HB1.out.size))
      have r0 := blkA hres 0
      have r1 := blkA hres 1
      simp only [List.getElem?_toArray, List.getElem?_cons_zero, List.getElem?_cons_succ] at r0 r1
      have f0 := frzA hres 0
      have f1 := frzA (setA hres 0 (.int .i64 0)) 1
      have HH := Lib.hid (And.intro hres hbel)
      clear hres hbel hb2 HFIN
      go_wp2
      obtain ⟨e0, e2⟩ := twoA HH.out.1 (.int .i64 0) (.slice none 0 0)
      exact bodyPost_ret (v := .tuple #[.agg #[.int .i64 0, .slice none 0 0], .int .i64 2]) (by simp [results, Try.results12, go_sem, e0, e2]) rfl ⟨⟨_, rfl, ⟨rfl, .inl ⟨rfl, rfl⟩⟩⟩, HH.out.2⟩
    · have HT := Lib.hid (show ftRes (F.take s) = .tuple #[.string (B pl), .string (B []), .int .i64 0] by rw [hs, show ftRes (.ok pl []) = _ from ftRes_ok pl []])
      have hpl : pl.length ≤ 100000000 := by have := (F.take_inv hs).2.2; omega
      have HM := Lib.hid hm
      clear hs hm
      go_wp2_with fail
      refine (FTake_at s _ w1 hsl HT).mono ?_
      rintro x w2 ⟨rfl, hb2⟩
      have HB2 := Lib.hid (HB1.out.trans (hb2.mono HB1.out.size))
      clear hb2
      go_wp2_with fail
      refine (manifestOf_l pl e n segs w2 hpl HM.out).mono ?_
      rintro x w3 ⟨⟨v, rfl, hown⟩, hb3⟩
      obtain ⟨va, vc, hvv, -⟩ := reads_own hown
      subst hvv
      have hlt2 : rb < w2.heap.size := Nat.lt_of_lt_of_le HLT.out HB2.out.size
      obtain ⟨hres, hbel⟩ := HFIN.out W w3 (.int .i64 (n : Int)) (.slice va (intCells segs).length vc) HB.out HLT.out HC.out (HB2.out.trans (hb3.mono HB2.out.size))
      have HOW := Lib.hid (own_mono (own_set2 hown hlt2 (.int .i64 (n : Int)) (.slice va (intCells segs).length vc)) (base' := w.heap.size) (by rw [HRB.out]; omega))
      have r0 := blkA hres 0
      have r1 := blkA hres 1
      simp only [List.getElem?_toArray, List.getElem?_cons_zero, List.getElem?_cons_succ] at r0 r1
      have f0 := frzA hres 0
      have f1 := frzA (setA hres 0 (.int .i64 (n : Int))) 1
      have HH := Lib.hid (And.intro hres hbel)
      clear hres hbel hb3 HFIN hown
      go_wp2
      obtain ⟨e0, e2⟩ := twoA HH.out.1 (.int .i64 (n : Int)) (.slice va (intCells segs).length vc)
      exact bodyPost_ret (v := .tuple #[.agg #[.int .i64 (n : Int), .slice va (intCells segs).length vc], .int .i64 (e : Int)]) (by simp [results, Try.results12, go_sem, e0, e2]) rfl ⟨⟨_, rfl, HOW.out⟩, HH.out.2⟩
end
theorem epochOf_step {p : Tx} {z : Nat} {s1 : Stt} (h : step (p, true) = (z, s1)) : epochOf p = if s1 = (([] : Tx), true) ∧ 1 ≤ z ∧ z ≤ far then some z else none := by
  rcases N.takeL_cases p with ⟨e, ht⟩ | ⟨n, r, ht⟩
  · rw [step_bad true ht] at h
    cases h
    unfold epochOf
    rw [ht, if_neg (by intro hh; exact absurd hh.1 (by simp))]
  · rw [step_ok true ht] at h
    cases h
    unfold epochOf
    rw [ht]
    cases r with
    | nil =>
      simp only
      by_cases hb : 1 ≤ z ∧ z ≤ far
      · rw [if_pos hb, if_pos ⟨by trivial, hb⟩]
      · rw [if_neg hb, if_neg fun hh => hb hh.2]
    | cons a r =>
      simp only
      rw [if_neg (by intro hh; exact absurd hh.1 (by simp))]
set_option maxRecDepth 100000 in
set_option maxHeartbeats 2000000 in
theorem epochOf_l (p : Tx) (w : World) (hp : p.length ≤ 100000000) :
    Calls Try.prog 49 #[.string (B p)] w fun x w' => (∃ (z : Nat) (b : Bool), x = .returned (.tuple #[.int .i64 (z : Int), .bool b]) ∧ z ≤ 1099511627776 ∧ epochOf p = if b = true then some z else none) ∧ Below w.heap.size w w' := by
  obtain ⟨⟨z, s1⟩, hs1⟩ : ∃ q, step (p, true) = q := ⟨_, rfl⟩
  have HE := Lib.hid (epochOf_step hs1)
  have hz : z ≤ 1099511627776 := by have := (step_le (p, true)).1; rw [hs1] at this; exact this
  have HS := Lib.hid hs1
  clear hs1
  go_enter Try.func49, Try.ntmps49
  go_wp2_with fail
  refine (numbers_l p w).mono ?_
  rintro x w1 ⟨rfl, hnx, hsz, hb1⟩
  have HNX := Lib.hid hnx
  have HB1 := Lib.hid hb1
  clear hnx hb1
  go_wp2_with fail
  refine (next_l w.heap.size (w.heap.size + 1) (p, true) z s1 w1 HNX.out hp HS).mono ?_
  rintro x w2 ⟨rfl, hnx, hbut⟩
  have HNX2 := Lib.hid hnx
  have HB2 : Hid (Below w.heap.size w w2) := Lib.hid ⟨hbut.os.trans HB1.out.os, hbut.tape.trans HB1.out.tape, hbut.output.trans HB1.out.output, Nat.le_trans HB1.out.size hbut.size, fun k hk => (hbut.block k (by omega) (by omega)).trans (HB1.out.block k hk)⟩
  clear hnx hbut HNX HB1
  by_cases hs : s1 = (([] : Tx), true)
  · have HO : Hid (decide (s1 = (([] : Tx), true)) = true) := Lib.hid (decide_eq_true hs)
    by_cases hb : 1 ≤ z ∧ z ≤ far
    · have HBT : Hid (decide ((1 : Int) ≤ (z : Int) ∧ (z : Int) ≤ 274877906944) = true) := Lib.hid (by unfold far at hb; simp; omega)
      have HEE : Hid (epochOf p = if true = true then some z else none) := Lib.hid (by rw [HE.out, if_pos ⟨hs, hb⟩, if_pos rfl])
      clear hs hb HE
      go_wp2_with (first
        | (refine (over_l w.heap.size (w.heap.size + 1) s1 true _ HNX2.out HO).mono ?_; rintro x w2 ⟨rfl, rfl⟩)
        | (go_at_call 30; refine (between_l _ _ _ true _ HBT).mono ?_; rintro x w2 ⟨rfl, rfl⟩))
      go_ret2
      exact ⟨⟨z, true, rfl, hz, HEE.out⟩, HB2.out⟩
    · have HBT : Hid (decide ((1 : Int) ≤ (z : Int) ∧ (z : Int) ≤ 274877906944) = false) := Lib.hid (by unfold far at hb; rw [decide_eq_false_iff_not]; omega)
      have HEE : Hid (epochOf p = if false = true then some z else none) := Lib.hid (by rw [HE.out, if_neg fun h => hb h.2, if_neg (by decide)])
      clear hs hb HE
      go_wp2_with (first
        | (refine (over_l w.heap.size (w.heap.size + 1) s1 true _ HNX2.out HO).mono ?_; rintro x w2 ⟨rfl, rfl⟩)
        | (go_at_call 30; refine (between_l _ _ _ false _ HBT).mono ?_; rintro x w2 ⟨rfl, rfl⟩))
      go_ret2
      exact ⟨⟨z, false, rfl, hz, HEE.out⟩, HB2.out⟩
  · have HO : Hid (decide (s1 = (([] : Tx), true)) = false) := Lib.hid (decide_eq_false hs)
    have HEE : Hid (epochOf p = if false = true then some z else none) := Lib.hid (by rw [HE.out, if_neg fun h => hs h.1, if_neg (by decide)])
    clear hs HE
    go_wp2_with (refine (over_l w.heap.size (w.heap.size + 1) s1 false _ HNX2.out HO).mono ?_; rintro x w2 ⟨rfl, rfl⟩)
    go_ret2
    exact ⟨⟨z, false, rfl, hz, HEE.out⟩, HB2.out⟩
end Go.Proofs.Ytmfhipjceeijmaa.A
