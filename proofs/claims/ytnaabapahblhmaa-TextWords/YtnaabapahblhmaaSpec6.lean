/-
  Plain facts of texts: a byte below 128 begins a rune whatever stands ahead; runes of two texts one behind the other; names with one rune more. No program in this text.
-/
import Derived.Test.YtnaabapahblhmaaSpec5
namespace Go.Proofs.Ytnaabapahblhmaa.T

theorem bt_in {l : List UInt8} (Y : List UInt8) {i : Nat} (h : i < l.length) : bt (l ++ Y) i = bt l i := by
  simp [bt, List.getD_eq_getElem?_getD, List.getElem?_append_left h]
theorem bt_at_len {l : List UInt8} (c : UInt8) (X : List UInt8) : bt (l ++ c :: X) l.length = c.toNat := by
  simp [bt, List.getD_eq_getElem?_getD]

theorem dec_tail {l : List UInt8} (h : l ≠ []) {c : UInt8} (hc : c.toNat < 128) (X : List UInt8) : decN (l ++ c :: X) = decN l := by
  by_cases hn : 0 ≤ num l
  · have := dec_local h hn (l.drop (wid l) ++ c :: X)
    rwa [← List.append_assoc, List.take_append_drop] at this
  · have hl0 := len_pos h
    have hcl := bt_at_len (l := l) c X
    have e0 := bt_in (c :: X) (l := l) (i := 0) (by omega)
    have hbad : decN l = (65533, 1) ∧ 128 ≤ bt l 0 := by
      rcases dec_cases l with ⟨a, e⟩ | ⟨a, e⟩ | ⟨hl, a, b, v, hv, hh, e⟩ | ⟨hl, a, b, d, v, hv, hh, e⟩ | ⟨hl, a, b, d, f, v, hv, hh, e⟩
      · exact absurd (by simp [num, e]; omega) hn
      · exact ⟨e, a⟩
      · exact absurd (by simp [num, e]) hn
      · exact absurd (by simp [num, e]) hn
      · exact absurd (by simp [num, e]) hn
    rw [hbad.1]
    have far : ∀ i, i < l.length → bt (l ++ c :: X) (i + 1) / 64 = 2 → i + 1 < l.length := by
      intro i hi hb
      by_cases hh : i + 1 = l.length
      · rw [hh, hcl] at hb; omega
      · omega
    have bad2 : ∀ v w, decN l = (v, w) → w = 1 := by intro v w e; rw [hbad.1] at e; simp at e; omega
    rcases dec_cases (l ++ c :: X) with ⟨a, e⟩ | ⟨a, e⟩ | ⟨hl, a, b, v, hv, hh, e⟩ | ⟨hl, a, b, d, v, hv, hh, e⟩ | ⟨hl, a, b, d, f, v, hv, hh, e⟩
    · omega
    · exact e
    · exfalso
      have l1 := far 0 (by omega) b
      rw [e0] at a hv
      rw [bt_in _ l1] at b hv
      obtain ⟨x, y, r, rfl⟩ := of2 (l := l) (by omega)
      simp only [bt, List.getD_cons_zero, List.getD_cons_succ] at a b hv
      have := bad2 _ _ (decN_two (X := r) a b (by omega))
      omega
    · exfalso
      have l1 := far 0 (by omega) b
      have l2 := far 1 (by omega) d
      rw [e0] at a hv
      rw [bt_in _ l1] at b hv
      rw [bt_in _ l2] at d hv
      obtain ⟨x, y, z, r, rfl⟩ := of3 (l := l) (by omega)
      simp only [bt, List.getD_cons_zero, List.getD_cons_succ] at a b d hv
      have := bad2 _ _ (decN_three (X := r) a b d hv hh)
      omega
    · exfalso
      have l1 := far 0 (by omega) b
      have l2 := far 1 (by omega) d
      have l3 := far 2 (by omega) f
      rw [e0] at a hv
      rw [bt_in _ l1] at b hv
      rw [bt_in _ l2] at d hv
      rw [bt_in _ l3] at f hv
      obtain ⟨x, y, z, t, r, rfl⟩ := of4 (l := l) (by omega)
      simp only [bt, List.getD_cons_zero, List.getD_cons_succ] at a b d f hv
      have := bad2 _ _ (decN_four (X := r) a b d f hv hh)
      omega

theorem nums_append : ∀ (n : Nat) (l : List UInt8), l.length ≤ n → ∀ {c : UInt8}, c.toNat < 128 → ∀ X, nums (l ++ c :: X) = nums l ++ nums (c :: X)
  | 0, l, hl, c, _, X => by
    have : l = [] := List.length_eq_zero_iff.1 (by omega)
    subst this; simp [nums, scan_nil]
  | n + 1, l, hl, c, hc, X => by
    by_cases h : l = []
    · subst h; simp [nums, scan_nil]
    · have hw := wid_pos l
      have hwl := wid_le h
      have e := dec_tail h hc X
      have ew : wid (l ++ c :: X) = wid l := congrArg Prod.snd e
      have en : num (l ++ c :: X) = num l := by unfold num; rw [e]
      rw [nums_cons (by simp), nums_cons h, ew, en, List.drop_append_of_le_length hwl, nums_append n (l.drop (wid l)) (by simp; omega) hc X]
      simp
theorem nums_ascii {c : UInt8} (hc : c.toNat < 128) (X : List UInt8) : nums (c :: X) = (c.toNat : Int) :: nums X := by
  have e := decN_one (X := X) hc
  rw [nums_cons (by simp)]
  have : wid (c :: X) = 1 := by simp [wid, e]
  rw [this]
  simp [num, e]; omega
theorem nums_nil : nums [] = [] := rfl

/-- The runes that take two bytes or more. -/
def wides (l : List Int) : Nat := (l.filter fun r => decide (128 ≤ r)).length
theorem nums_wide : ∀ (n : Nat) (l : List UInt8), l.length ≤ n → (nums l).length + wides (nums l) ≤ l.length
  | 0, l, hl => by
    have : l = [] := List.length_eq_zero_iff.1 (by omega)
    subst this; simp [nums_nil, wides]
  | n + 1, l, hl => by
    by_cases h : l = []
    · subst h; simp [nums_nil, wides]
    · have hw := wid_pos l
      have hwl := wid_le h
      have ih := nums_wide n (l.drop (wid l)) (by simp; omega)
      rw [nums_cons h]
      unfold wides at ih ⊢
      rcases kind l with ⟨a, hn, _, hww⟩ | ⟨a, hn, _, hww⟩ | ⟨a, hn, hr, hww, _⟩
      · have : decide (128 ≤ num l) = false := by simp; omega
        rw [List.filter_cons_of_neg (by simp [this])]
        simp at ih ⊢; omega
      · have : decide (128 ≤ num l) = false := by simp; omega
        rw [List.filter_cons_of_neg (by simp [this])]
        simp at ih ⊢; omega
      · have : decide (128 ≤ num l) = true := by simp; omega
        rw [List.filter_cons_of_pos (by simp [this])]
        simp at ih ⊢; omega
theorem nums_bd : ∀ (n : Nat) (l : List UInt8), l.length ≤ n → ∀ r ∈ nums l, -1 ≤ r ∧ r ≤ 1114111
  | 0, l, hl => by
    have : l = [] := List.length_eq_zero_iff.1 (by omega)
    subst this; simp [nums_nil]
  | n + 1, l, hl => by
    by_cases h : l = []
    · subst h; simp [nums_nil]
    · have hw := wid_pos l
      have ih := nums_bd n (l.drop (wid l)) (by simp; omega)
      rw [nums_cons h]
      intro r hr
      rcases List.mem_cons.1 hr with rfl | hr
      · exact num_bd l
      · exact ih r hr
theorem nums_len (l : List UInt8) : (nums l).length ≤ l.length := by have := nums_wide l.length l (Nat.le_refl _); omega
end Go.Proofs.Ytnaabapahblhmaa.T
