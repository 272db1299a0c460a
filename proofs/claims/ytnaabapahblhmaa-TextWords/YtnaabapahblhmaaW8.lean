/-
  The walk of Words of package text.
-/
import Derived.Test.YtnaabapahblhmaaW7
namespace Go.Proofs.Ytnaabapahblhmaa
open Go.RowKit
attribute [local go_sem] ext_Bd ext_Bt toList_B

def strip (l : List UInt8) : List UInt8 := l.drop (T.gap l)
def wordsF : Nat → List UInt8 → Option (List (List UInt8))
  | 0, _ => some []
  | f + 1, m => if m = [] then some [] else
    match fwL m with
    | none => none
    | some p => (wordsF f (strip (m.drop p.2))).map (p.1 :: ·)
def wordsW (m : List UInt8) : Option (List (List UInt8)) := wordsF m.length m
def wordsL (l : List UInt8) : Option (List (List UInt8)) := wordsW (strip l)

theorem strip_gap : ∀ l : List UInt8, T.gap (strip l) = 0
  | [] => rfl
  | c :: r => by
    have ih := strip_gap r
    cases h : T.gapB c
    · simp [strip, T.gap, h]
    · simp only [strip, T.gap, List.takeWhile_cons_of_pos h, List.length_cons, List.drop_succ_cons] at ih ⊢
      exact ih
theorem strip_len (l : List UInt8) : (strip l).length ≤ l.length := by simp [strip]
theorem fw_bd {m t : List UInt8} {n : Nat} (hne : m ≠ []) (hg : T.gap m = 0) (h : fwL m = some (t, n)) : 1 ≤ n ∧ n ≤ m.length := by
  unfold fwL at h
  split at h
  · unfold fqL at h
    split at h
    · cases h
    · rename_i k hk
      have := qTot_le hk
      split at h
      · cases h
      · rw [Option.map_eq_some_iff] at h
        obtain ⟨x, _, hx⟩ := h
        simp at hx; omega
  · rename_i hq
    rw [Option.map_eq_some_iff] at h
    obtain ⟨x, hx, hx2⟩ := h
    simp at hx2
    obtain ⟨_, rfl⟩ := hx2
    refine ⟨?_, T.plain_le _ _ hx⟩
    match m, hne with
    | c :: r, _ =>
      have hq2 : ¬ c = 34 := hq
      have hgc : T.gapB c = false := by
        cases h : T.gapB c
        · rfl
        · simp [T.gap, h] at hg
      simp only [T.plainLen, if_neg hq2, hgc] at hx
      rw [if_neg (by simp), Option.map_eq_some_iff] at hx
      obtain ⟨y, _, rfl⟩ := hx
      omega
theorem wordsF_eq : ∀ (f g : Nat) (m : List UInt8), T.gap m = 0 → m.length ≤ f → m.length ≤ g → wordsF f m = wordsF g m
  | 0, g, m, _, a, _ => by
    have : m = [] := List.length_eq_zero_iff.1 (by omega)
    subst this; cases g <;> simp [wordsF]
  | f + 1, 0, m, _, _, b => by
    have : m = [] := List.length_eq_zero_iff.1 (by omega)
    subst this; simp [wordsF]
  | f + 1, g + 1, m, hg, a, b => by
    simp only [wordsF]
    split
    · rfl
    · rename_i hne
      cases h : fwL m with
      | none => rfl
      | some p =>
        obtain ⟨t, n⟩ := p
        have hb := fw_bd hne hg h
        have hl := strip_len (m.drop n)
        simp only
        rw [wordsF_eq f g (strip (m.drop n)) (strip_gap _) (by simp at hl; omega) (by simp at hl; omega)]
theorem wordsW_nil : wordsW [] = some [] := rfl
theorem wordsW_bad {m : List UInt8} (hne : m ≠ []) (h : fwL m = none) : wordsW m = none := by
  obtain ⟨k, hk⟩ : ∃ k, m.length = k + 1 := ⟨m.length - 1, by have := T.len_pos hne; omega⟩
  unfold wordsW
  rw [hk, wordsF, if_neg hne, h]
theorem wordsW_cons {m t : List UInt8} {n : Nat} (hne : m ≠ []) (hg : T.gap m = 0) (h : fwL m = some (t, n)) : wordsW m = (wordsW (strip (m.drop n))).map (t :: ·) := by
  obtain ⟨k, hk⟩ : ∃ k, m.length = k + 1 := ⟨m.length - 1, by have := T.len_pos hne; omega⟩
  have hb := fw_bd hne hg h
  have hl := strip_len (m.drop n)
  unfold wordsW
  rw [hk, wordsF, if_neg hne, h]
  simp only
  rw [wordsF_eq k (strip (m.drop n)).length (strip (m.drop n)) (strip_gap _) (by simp at hl; omega) (Nat.le_refl _)]

def strCells (ws : List (List UInt8)) : List Value := ws.map fun l => .string (B l)
theorem strCells_len (ws : List (List UInt8)) : (strCells ws).length = ws.length := by simp [strCells]
def strSize (v : Value) : Nat := match v with | .string s => s.size | _ => 0
theorem strSize_B (m : List UInt8) : strSize (.string (B m)) = m.length := size_B m

structure WRel (l : List UInt8) (m : List UInt8) (acc : List (List UInt8)) : Prop where
  gap : T.gap m = 0
  cut : wordsL l = (wordsW m).map (acc ++ ·)
  le : acc.length + m.length ≤ l.length
theorem WRel.start (l : List UInt8) : WRel l (strip l) [] := ⟨strip_gap l, by cases h : wordsW (strip l) <;> simp [wordsL, h], by have := strip_len l; simp; omega⟩
theorem WRel.go {l m t : List UInt8} {acc : List (List UInt8)} {n : Nat} (h : WRel l m acc) (hne : m ≠ []) (hf : fwL m = some (t, n)) : WRel l (strip (m.drop n)) (acc ++ [t]) := by
  have hb := fw_bd hne h.gap hf
  have hl := strip_len (m.drop n)
  refine ⟨strip_gap _, ?_, by have := h.le; simp at hl ⊢; omega⟩
  rw [h.cut, wordsW_cons hne h.gap hf, Option.map_map]
  congr 1; funext x; simp
theorem WRel.bad {l m : List UInt8} {acc : List (List UInt8)} (h : WRel l m acc) (hne : m ≠ []) (hf : fwL m = none) : wordsL l = none := by
  rw [h.cut, wordsW_bad hne hf]; rfl
theorem WRel.done {l : List UInt8} {acc : List (List UInt8)} (h : WRel l [] acc) : wordsL l = some acc := by
  rw [h.cut, wordsW_nil]; simp

def WPost (o : Option (List (List UInt8))) (w : World) (e : Ending) (w' : World) : Prop :=
  ∃ v, e = .returned (.tuple #[v, .int .i64 (if o.isSome then 0 else 2)]) ∧ w'.ownsRow w.heap.size 9 1 v (o.getD []).length (strCells (o.getD [])) ∧ Below w.heap.size w w'

theorem own_below {w w' : World} {base : Nat} {e : TypeId} {v : Value} {n : Nat} {xs : List Value} (h : w.ownsRow base e 1 v n xs) (hb : Below w.heap.size w w') : w'.ownsRow base e 1 v n xs := by
  refine ⟨h.1, ?_⟩
  rcases h.2 with hn | ⟨g, cap, cur, rfl, hbg, hg, rest⟩
  · exact .inl hn
  · refine .inr ⟨g, cap, cur, rfl, hbg, ?_, rest⟩
    rw [hb.block g (Array.getElem?_eq_some_iff.1 hg).1]
    exact hg

set_option maxHeartbeats 400000 in
theorem Words_l (l : List UInt8) (w : World) (hs : l.length ≤ 100000) : Calls Try.prog 22 #[.string (B l)] w (WPost (wordsL l) w) := by
  obtain ⟨i0, hi, hz0, hz1, hz2⟩ := info_parts Try.info9
  have hgl := T.gap_le l
  have hgs : T.gap l ≤ (B l).size := by rw [size_B]; exact hgl
  go_enter Try.func22, Try.ntmps22
  go_wp2_with (go_at_call 34; refine (gapLength_l l w (by omega)).mono ?_; rintro e w0 ⟨rfl, hb0⟩)
  go_loopw [4, 5] (fun v r wr => ∃ (m : List UInt8) (acc : List (List UInt8)), r = .string (B m) ∧ wr.ownsRow w.heap.size 9 1 v acc.length (strCells acc) ∧ Below w.heap.size w wr ∧ WRel l m acc) (fun _ r _ => strSize r)
  case atStart => exact ⟨strip l, [], rfl, World.ownsRow_nil _ _ _ _, hb0, WRel.start l⟩
  case round =>
    obtain ⟨m, acc, rfl, hown, hbw, hg⟩ := hrel
    have hle := hg.le
    have HG := Lib.hid hg; clear hg
    have hsz := hbw.size
    by_cases hm : m = []
    · have HD := Lib.hid ((hm ▸ HG.out : WRel l [] acc).done)
      have hme : m.isEmpty = true := by simp [hm]
      clear hm
      go_wp2
      go_ret2
      rw [HD.out]
      exact ⟨_, rfl, hown, hbw⟩
    · have hme : m.isEmpty = false := by simpa using hm
      have hml := T.len_pos hm
      cases hf : fwL m with
      | none =>
        have HD := Lib.hid (HG.out.bad hm hf)
        have HF := Lib.hid hf; clear hf
        have HM := Lib.hid hm; clear hm
        go_wp2_with (go_at_call 35; refine (firstWord_l m _ (by omega) hml).mono ?_; rintro e w1 ⟨rfl, hb1⟩; rw [HF.out, wRes_none])
        go_ret2
        rw [HD.out]
        exact ⟨_, rfl, World.ownsRow_nil _ _ _ _, hbw.trans (hb1.mono hsz)⟩
      | some p =>
        obtain ⟨t, n⟩ := p
        have hb := fw_bd hm HG.out.gap hf
        have HD := Lib.hid (HG.out.go hm hf)
        have HF := Lib.hid hf; clear hf
        have HM := Lib.hid hm; clear hm
        have hn2 : n ≤ (B m).size := by rw [size_B]; exact hb.2
        have hgp := T.gap_le (m.drop n)
        have hg2 : T.gap (m.drop n) ≤ (B (m.drop n)).size := by rw [size_B]; exact hgp
        have hdl : (m.drop n).length + n ≤ m.length := by simp; omega
        go_wp2_with fail
        refine (firstWord_l m _ (by omega) hml).mono ?_
        rintro e w1 ⟨rfl, hb1⟩
        rw [HF.out, wRes_some]
        have hb2 : Below w.heap.size w w1 := hbw.trans (hb1.mono hsz)
        have hown1 : w1.ownsRow w.heap.size 9 1 u4 acc.length (strCells acc) := own_below hown hb1
        have hsz1 := hb2.size
        clear hb1 hown hbw
        go_wp2_with (at_builtin; refine wpList_append_own _ rfl _ _ 31 rfl w.heap.size 9 i0 (.string ⟨#[]⟩) 1 16 Try.underlying31 hi hz0 hz1 hz2 rfl (by decide) _ _ _ rfl (hown1.alloc _) ⟨w1.heap.size, 0, none⟩ 1 1 [.string (B t)] rfl rfl (cell_one_new _ _ _) (by intro u hu; simp at hu; subst hu; rfl) (by unfold maxLen; omega) (by omega) (by simp; omega) ?_; intro v' w2 hown' hgrow _)
        have hb3 := below_grown hb2 hsz1 hown1 hgrow
        have hown3 : w2.ownsRow w.heap.size 9 1 v' (acc ++ [t]).length (strCells (acc ++ [t])) := by simpa [strCells] using hown'
        clear hown' hgrow hown1
        go_wp2_with (go_at_call 34; refine (gapLength_l (m.drop n) _ (by omega)).mono ?_; rintro e w4 ⟨rfl, hb4⟩)
        have hown4 := own_below hown3 hb4
        have hb5 := hb3.trans (hb4.mono hb3.size)
        go_roundw
        case rel => exact ⟨strip (m.drop n), acc ++ [t], by simp only [strip, List.drop_drop], hown4, hb5, HD.out⟩
        case measure =>
          rw [strSize_B, strSize_B]
          simp; omega
end Go.Proofs.Ytnaabapahblhmaa
