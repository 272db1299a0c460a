/-
  Plain facts of words and lines: two lines with a blank between have the words of both; the words of a line that was made of words are these; a name is a word that stands for itself.
-/
import Derived.Test.YtnaabapahblhmaaW11
namespace Go.Proofs.Ytnaabapahblhmaa

/-! ### a blank behind -/
theorem plain_blank (X : List UInt8) : ∀ (m : List UInt8) (n : Nat), T.plainLen m = some n → T.plainLen (m ++ 32 :: X) = some n
  | [], n, h => by simp [T.plainLen] at h; subst h; simp [T.plainLen, T.gapB]
  | c :: r, n, h => by
    simp only [T.plainLen, List.cons_append] at h ⊢
    split at h
    · cases h
    · rename_i h1
      rw [if_neg h1]
      split at h
      · rename_i h2; rw [if_pos h2]; exact h
      · rename_i h2
        rw [if_neg h2]
        rw [Option.map_eq_some_iff] at h
        obtain ⟨k, hk, rfl⟩ := h
        rw [plain_blank X r k hk]; rfl
theorem qLen_app (X : List UInt8) : ∀ (m : List UInt8) (b : Bool) (n : Nat), T.qLen b m = some n → T.qLen b (m ++ X) = some n
  | [], b, n, h => by cases b <;> simp [T.qLen] at h
  | c :: r, true, n, h => by
    simp only [T.qLen, List.cons_append, Option.map_eq_some_iff] at h ⊢
    obtain ⟨k, hk, rfl⟩ := h
    exact ⟨k, qLen_app X r false k hk, rfl⟩
  | c :: r, false, n, h => by
    simp only [T.qLen, List.cons_append] at h ⊢
    split at h
    · rename_i h1
      rw [if_pos h1]
      rw [Option.map_eq_some_iff] at h ⊢
      obtain ⟨k, hk, rfl⟩ := h
      exact ⟨k, qLen_app X r true k hk, rfl⟩
    · rename_i h1
      rw [if_neg h1]
      split at h
      · rename_i h2; rw [if_pos h2]; exact h
      · rename_i h2
        rw [if_neg h2]
        rw [Option.map_eq_some_iff] at h ⊢
        obtain ⟨k, hk, rfl⟩ := h
        exact ⟨k, qLen_app X r false k hk, rfl⟩
theorem qTot_app {m : List UInt8} {n : Nat} (hne : m ≠ []) (X : List UInt8) (h : qTot m = some n) : qTot (m ++ X) = some n := by
  match m, hne with
  | c :: r, _ =>
    simp only [qTot, List.cons_append, List.drop_succ_cons, List.drop_zero, Option.map_eq_some_iff] at h ⊢
    obtain ⟨k, hk, rfl⟩ := h
    exact ⟨k, qLen_app X r false k hk, rfl⟩

theorem fw_blank {m t : List UInt8} {n : Nat} (hne : m ≠ []) (X : List UInt8) (h : fwL m = some (t, n)) (hn : n ≤ m.length) : fwL (m ++ 32 :: X) = some (t, n) := by
  have h0 : (m ++ 32 :: X).getD 0 0 = m.getD 0 0 := by
    match m, hne with
    | c :: r, _ => rfl
  have htk : (m ++ 32 :: X).take n = m.take n := List.take_append_of_le_length hn
  unfold fwL at h ⊢
  rw [h0]
  split at h
  · rename_i hq
    rw [if_pos hq]
    unfold fqL at h
    split at h
    · cases h
    · rename_i k hk
      split at h
      · cases h
      · rename_i hg
        rw [Option.map_eq_some_iff] at h
        obtain ⟨x, hx, hx2⟩ := h
        simp at hx2
        obtain ⟨rfl, rfl⟩ := hx2
        have hk2 := qTot_app hne (32 :: X) hk
        rw [fq_go hk2 ?_, htk, hx]
        · rfl
        · rintro ⟨_, h2⟩
          by_cases hlt : k < m.length
          · rw [List.getD_eq_getElem?_getD, List.getElem?_append_left hlt, ← List.getD_eq_getElem?_getD] at h2
            exact hg ⟨hlt, h2⟩
          · obtain rfl : k = m.length := by omega
            simp [List.getD_eq_getElem?_getD, T.gapB] at h2
  · rename_i hq
    rw [if_neg hq]
    rw [Option.map_eq_some_iff] at h
    obtain ⟨x, hx, hx2⟩ := h
    simp at hx2
    obtain ⟨rfl, rfl⟩ := hx2
    rw [plain_blank X m x hx]
    simp [htk]

theorem strip_app (y : List UInt8) : ∀ x : List UInt8, strip (x ++ y) = strip (strip x ++ y)
  | [] => by simp [strip, T.gap]
  | c :: r => by
    cases h : T.gapB c
    · have : strip (c :: r) = c :: r := by simp [strip, T.gap, h]
      rw [this]
    · have e1 : strip (c :: r) = strip r := by simp [strip, T.gap, h]
      have e2 : strip (c :: r ++ y) = strip (r ++ y) := by simp [strip, T.gap, h]
      rw [e1, e2, strip_app y r]
theorem strip_blank (y : List UInt8) : strip (32 :: y) = strip y := by
  have h : T.gapB 32 = true := rfl
  simp [strip, T.gap, h]
theorem strip_of {l : List UInt8} (h : T.gap l = 0) : strip l = l := by simp [strip, h]
theorem gap_app {m : List UInt8} (hne : m ≠ []) (h : T.gap m = 0) (X : List UInt8) : T.gap (m ++ X) = 0 := by
  match m, hne with
  | c :: r, _ =>
    cases hc : T.gapB c
    · simp [T.gap, hc]
    · simp [T.gap, hc] at h
theorem wordsL_strip (l : List UInt8) : wordsL (strip l) = wordsL l := by
  unfold wordsL
  rw [strip_of (strip_gap l)]

theorem words_join (t : List UInt8) : ∀ (n : Nat) (m : List UInt8) (A : List (List UInt8)), m.length ≤ n → T.gap m = 0 → wordsW m = some A → wordsL (m ++ 32 :: t) = (wordsL t).map (A ++ ·)
  | n, [], A, _, _, h => by
    have : A = [] := by simpa [wordsW, wordsF] using h.symm
    subst this
    unfold wordsL
    rw [List.nil_append, strip_blank]
    cases wordsW (strip t) <;> simp
  | 0, c :: r, A, hl, _, _ => by simp at hl
  | n + 1, c :: r, A, hl, hg, h => by
    have hne : c :: r ≠ [] := by simp
    cases hf : fwL (c :: r) with
    | none => rw [wordsW_bad hne hf] at h; cases h
    | some p =>
      obtain ⟨w, k⟩ := p
      have hb := fw_bd hne hg hf
      rw [wordsW_cons hne hg hf, Option.map_eq_some_iff] at h
      obtain ⟨A', hA, rfl⟩ := h
      have hf2 := fw_blank hne t hf hb.2
      have hg2 := gap_app hne hg (32 :: t)
      have hne2 : c :: r ++ 32 :: t ≠ [] := by simp
      have hsl := strip_len ((c :: r).drop k)
      have ih := words_join t n (strip ((c :: r).drop k)) A' (by simp at hsl hl ⊢; omega) (strip_gap _) hA
      have e : wordsL (c :: r ++ 32 :: t) = (wordsL ((c :: r).drop k ++ 32 :: t)).map (w :: ·) := by
        rw [wordsL, strip_of hg2, wordsW_cons hne2 hg2 hf2, List.drop_append_of_le_length hb.2]; rfl
      rw [e, ← wordsL_strip ((c :: r).drop k ++ 32 :: t), strip_app, wordsL_strip, ih, Option.map_map]
      congr 1
theorem words_two {s t : List UInt8} {A C : List (List UInt8)} (h : wordsL s = some A) (h2 : wordsL t = some C) : wordsL (s ++ 32 :: t) = some (A ++ C) := by
  rw [← wordsL_strip (s ++ 32 :: t), strip_app, wordsL_strip, words_join t (strip s).length (strip s) A (Nat.le_refl _) (strip_gap s) h, h2]
  rfl

/-! ### one word -/
theorem ascii_num {w : List UInt8} {c : UInt8} (h : c ∈ w) (hc : c.toNat < 128) : (c.toNat : Int) ∈ T.nums w := by
  obtain ⟨a, b, rfl⟩ := List.append_of_mem h
  rw [T.nums_append a.length a (Nat.le_refl _) hc, T.nums_ascii hc]
  simp
theorem plain_all : ∀ (w : List UInt8), (∀ c ∈ w, ¬ c = 34 ∧ T.gapB c = false) → T.plainLen w = some w.length
  | [], _ => rfl
  | c :: r, h => by
    have hc := h c (by simp)
    simp only [T.plainLen, if_neg hc.1, hc.2]
    rw [if_neg (by simp), plain_all r (fun x hx => h x (by simp [hx]))]; rfl
theorem plain_word {w : List UInt8} (h : plainL w = true) : w ≠ [] ∧ ∀ c ∈ w, ¬ c = 34 ∧ T.gapB c = false := by
  unfold plainL at h
  rw [Bool.and_eq_true, List.all_eq_true] at h
  refine ⟨by intro e; subst e; simp at h, fun c hc => ?_⟩
  by_cases h1 : c.toNat < 128
  · have := h.1 _ (ascii_num hc h1)
    simp [plainR] at this
    refine ⟨fun e => by subst e; simp at this, ?_⟩
    simp only [T.gapB, Bool.or_eq_false_iff, beq_eq_false_iff_ne]
    exact ⟨fun e => by subst e; simp at this, fun e => by subst e; simp at this⟩
  · refine ⟨fun e => by subst e; simp at h1, ?_⟩
    simp only [T.gapB, Bool.or_eq_false_iff, beq_eq_false_iff_ne]
    exact ⟨fun e => by subst e; simp at h1, fun e => by subst e; simp at h1⟩
theorem words_plain {w : List UInt8} (h : plainL w = true) : wordsL w = some [w] := by
  obtain ⟨hne, ha⟩ := plain_word h
  have hg : T.gap w = 0 := by
    match w, hne with
    | c :: r, _ => simp [T.gap, (ha c (by simp)).2]
  have hf : fwL w = some (w, w.length) := by
    unfold fwL
    have : ¬ w.getD 0 0 = 34 := by
      match w, hne with
      | c :: r, _ => exact (ha c (by simp)).1
    rw [if_neg this, plain_all w ha]; simp
  rw [wordsL, strip_of hg, wordsW_cons hne hg hf]
  simp [strip, T.gap, wordsW_nil]

theorem qLen_skip {c : UInt8} {r : List UInt8} (h1 : ¬ c = 92) (h2 : ¬ c = 34) : T.qLen false (c :: r) = (T.qLen false r).map (· + 1) := by simp only [T.qLen, if_neg h1, if_neg h2]
theorem qLen_wide (X : List UInt8) : ∀ p : List UInt8, (∀ c ∈ p, ¬ c = 92 ∧ ¬ c = 34) → T.qLen false (p ++ X) = (T.qLen false X).map (· + p.length)
  | [], _ => by simp
  | c :: r, h => by
    have hc := h c (by simp)
    rw [List.cons_append, qLen_skip hc.1 hc.2, qLen_wide X r (fun x hx => h x (by simp [hx])), Option.map_map]
    congr 1
theorem hexD_ne (n : Nat) (h : n < 16) : ¬ T.hexD n = 92 ∧ ¬ T.hexD n = 34 := by
  match n, h with
  | 0, _ | 1, _ | 2, _ | 3, _ | 4, _ | 5, _ | 6, _ | 7, _ | 8, _ | 9, _ | 10, _ | 11, _ | 12, _ | 13, _ | 14, _ | 15, _ => decide
  | n + 16, h => omega
theorem qLen_piece {l : List UInt8} (h : l ≠ []) (X : List UInt8) : T.qLen false (T.piece l ++ X) = (T.qLen false X).map (· + (T.piece l).length) := by
  have hb0 := T.bt_lt l 0
  by_cases c1 : T.num l = 34 ∨ T.num l = 92
  · rw [T.piece_quote c1]
    simp [T.qLen, Option.map_map]; congr 1
  by_cases c2 : T.num l = 10
  · rw [T.piece_line c2]
    simp [T.qLen, Option.map_map]; congr 1
  by_cases c3 : T.num l < 32 ∨ T.num l = 127
  · rw [T.piece_hid c1 c2 c3]
    have d1 := hexD_ne (T.bt l 0 / 16) (by omega)
    have d2 := hexD_ne (T.bt l 0 % 16) (by omega)
    show T.qLen false (92 :: 120 :: ([T.hexD (T.bt l 0 / 16), T.hexD (T.bt l 0 % 16)] ++ X)) = _
    have := qLen_wide X [T.hexD (T.bt l 0 / 16), T.hexD (T.bt l 0 % 16)] (by intro c hc; simp at hc; rcases hc with rfl | rfl <;> assumption)
    simp only [T.qLen, if_true, this, Option.map_map]
    congr 1
  · rw [T.piece_as c1 c2 c3]
    refine qLen_wide X _ ?_
    rcases T.kind l with ⟨a, hn, _, hw⟩ | ⟨a, hn, _⟩ | ⟨a, hn, hr, hw, hc⟩
    · obtain ⟨c, r, rfl, h0⟩ := T.cons_of h
      rw [hw]
      intro x hx
      simp at hx
      subst hx
      exact ⟨fun e => by subst e; apply c1; right; rw [hn, h0]; rfl, fun e => by subst e; apply c1; left; rw [hn, h0]; rfl⟩
    · omega
    · intro x hx
      obtain ⟨i, hi, rfl⟩ := List.getElem_of_mem hx
      have hi2 : i < T.wid l := by simp at hi; omega
      have hi3 : i < l.length := by simp at hi; omega
      have := hc i hi2
      have e : T.bt l i = ((l.take (T.wid l))[i]).toNat := by simp [T.bt, List.getD_eq_getElem?_getD, hi3]
      rw [e] at this
      exact ⟨fun e => by rw [e] at this; simp at this, fun e => by rw [e] at this; simp at this⟩
theorem qLen_scan (X : List UInt8) : ∀ (n : Nat) (l : List UInt8), l.length ≤ n → T.qLen false (T.scan T.piece l ++ X) = (T.qLen false X).map (· + (T.scan T.piece l).length)
  | 0, l, hl => by
    have : l = [] := List.length_eq_zero_iff.1 (by omega)
    subst this; simp [T.scan_nil]
  | n + 1, l, hl => by
    by_cases h : l = []
    · subst h; simp [T.scan_nil]
    · have hw := T.wid_pos l
      rw [T.scan_cons _ h, List.append_assoc, qLen_piece h, qLen_scan X n (l.drop (T.wid l)) (by simp; omega), Option.map_map]
      congr 1; funext x; simp; omega
theorem qTot_quote (w : List UInt8) : qTot (T.quoteL w) = some (T.quoteL w).length := by
  unfold qTot T.quoteL
  rw [List.drop_succ_cons, List.drop_zero, qLen_scan [34] w.length w (Nat.le_refl _)]
  simp [T.qLen]; omega
theorem unq_quote (w : List UInt8) : unqL (T.quoteL w) = some w := by
  have hm : mid (T.quoteL w) = T.scan T.piece w := by simp [mid, T.quoteL]
  have hl : ¬ (T.quoteL w).length < 2 := by simp [T.quoteL]
  have h := unq_ok (l := T.quoteL w) hl (by rw [hm, T.unesc_quote])
  rw [h, hm, T.unesc_quote]
theorem words_quote (w : List UInt8) : wordsL (T.quoteL w) = some [w] := by
  have hne : T.quoteL w ≠ [] := by simp [T.quoteL]
  have hg : T.gap (T.quoteL w) = 0 := by simp [T.quoteL, T.gap, T.gapB]
  have hf : fwL (T.quoteL w) = some (w, (T.quoteL w).length) := by
    unfold fwL
    have : (T.quoteL w).getD 0 0 = 34 := by simp [T.quoteL]
    rw [if_pos this, fq_go (qTot_quote w) (by simp), List.take_length, unq_quote]
    rfl
  rw [wordsL, strip_of hg, wordsW_cons hne hg hf]
  simp [strip, T.gap, wordsW_nil]
theorem words_one (w : List UInt8) : wordsL (wordQ w) = some [w] := by
  unfold wordQ
  split
  · rename_i h; exact words_plain h
  · exact words_quote w

/-- T4: the words of a line that was made of words are these. -/
theorem words_line : ∀ ws : List (List UInt8), wordsL (lineF ws) = some ws
  | [] => rfl
  | [w] => by simpa [lineF] using words_one w
  | w :: x :: r => by
    have ih := words_line (x :: r)
    have e : lineF (w :: x :: r) = wordQ w ++ 32 :: lineF (x :: r) := by simp [lineF]
    rw [e, words_two (words_one w) ih]
    rfl

theorem name_plain {s : List UInt8} (h : nameL s = true) : plainL s = true := by
  unfold nameL at h
  simp only [Bool.and_eq_true, decide_eq_true_eq, List.all_eq_true] at h
  unfold plainL
  rw [Bool.and_eq_true, List.all_eq_true]
  refine ⟨fun r hr => ?_, ?_⟩
  · have := h.2 r hr
    simp [nameR] at this
    simp [plainR]; omega
  · cases s with
    | nil => simp [T.nums_nil] at h
    | cons c r => simp
end Go.Proofs.Ytnaabapahblhmaa
