/-
  The place of a name in a sorted row of files: what is found, put, deleted there. No program in this text.
-/
import Derived.Test.YtamfhndcekcloaaDiskSpec
namespace Go.Proofs.Ytamfhndcekcloaa.D

def idx (n : Tx) : List F → Nat
  | [] => 0
  | f :: l => if lt f.name n = true then idx n l + 1 else 0
theorem idx_le (n : Tx) : ∀ l : List F, idx n l ≤ l.length
  | [] => Nat.le_refl _
  | f :: l => by
    have := idx_le n l
    unfold idx
    split <;> simp <;> omega
theorem idx_next {n : Tx} : ∀ {l : List F} {k : Nat} (h : k < l.length), k ≤ idx n l → lt l[k].name n = true → k + 1 ≤ idx n l
  | f :: l, 0, _, _, hl => by
    have hl2 : lt f.name n = true := hl
    unfold idx
    rw [if_pos hl2]
    omega
  | f :: l, k + 1, h, hk, hl => by
    unfold idx at hk ⊢
    split at hk
    · rename_i h2
      rw [if_pos h2]
      have := idx_next (n := n) (l := l) (k := k) (by simpa using h) (by omega) (by simpa using hl)
      omega
    · omega
theorem idx_stop {n : Tx} : ∀ {l : List F} {k : Nat} (h : k < l.length), k ≤ idx n l → lt l[k].name n = false → k = idx n l
  | f :: l, 0, _, _, hl => by
    have hl2 : lt f.name n = false := hl
    unfold idx
    rw [if_neg (by rw [hl2]; decide)]
  | f :: l, k + 1, h, hk, hl => by
    unfold idx at hk ⊢
    split at hk
    · rename_i h2
      rw [if_pos h2]
      have := idx_stop (n := n) (l := l) (k := k) (by simpa using h) (by omega) (by simpa using hl)
      omega
    · omega
theorem idx_end {n : Tx} {l : List F} {k : Nat} (h : ¬ k < l.length) (hk : k ≤ idx n l) : k = idx n l := by
  have := idx_le n l
  omega
/-- At the place of a name: it, or what is behind it. -/
theorem find_at {n : Tx} : ∀ {l : List F}, Sorted l → (h : idx n l < l.length) → l[idx n l].name = n → find n l = some l[idx n l]
  | f :: l, hs, h, he => by
    obtain ⟨h1, h2⟩ := List.pairwise_cons.1 hs
    by_cases hl : lt f.name n = true
    · have hne : ¬ f.name = n := fun e => by rw [e, lt_irrefl] at hl; cases hl
      have e1 : idx n (f :: l) = idx n l + 1 := by rw [idx, if_pos hl]
      have hl3 : idx n l < l.length := by rw [e1] at h; simpa using h
      have e2 : (f :: l)[idx n (f :: l)] = l[idx n l] := by simp only [e1, List.getElem_cons_succ]
      rw [e2] at he ⊢
      rw [find, if_neg hne]
      exact find_at h2 hl3 he
    · have e1 : idx n (f :: l) = 0 := by rw [idx, if_neg hl]
      have e2 : (f :: l)[idx n (f :: l)] = f := by simp only [e1, List.getElem_cons_zero]
      rw [e2] at he ⊢
      rw [find, if_pos he]
theorem find_off {n : Tx} : ∀ {l : List F}, Sorted l → (∀ h : idx n l < l.length, l[idx n l].name ≠ n) → find n l = none
  | [], _, _ => rfl
  | f :: l, hs, he => by
    obtain ⟨h1, h2⟩ := List.pairwise_cons.1 hs
    by_cases hl : lt f.name n = true
    · have hne : ¬ f.name = n := fun e => by rw [e, lt_irrefl] at hl; cases hl
      have e1 : idx n (f :: l) = idx n l + 1 := by rw [idx, if_pos hl]
      rw [find, if_neg hne]
      refine find_off h2 fun h => ?_
      have := he (by rw [e1]; simpa using h)
      have e2 : (f :: l)[idx n (f :: l)]'(by rw [e1]; simpa using h) = l[idx n l] := by simp only [e1, List.getElem_cons_succ]
      rw [e2] at this
      exact this
    · have e1 : idx n (f :: l) = 0 := by rw [idx, if_neg hl]
      have hne : f.name ≠ n := by
        have := he (by rw [e1]; simp)
        have e2 : (f :: l)[idx n (f :: l)]'(by rw [e1]; simp) = f := by simp only [e1, List.getElem_cons_zero]
        rw [e2] at this
        exact this
      have hnf : lt n f.name = true := by
        cases hq : lt n f.name
        · exact absurd (lt_tri (by simpa using hl) hq) hne
        · rfl
      rw [find, if_neg hne]
      cases hf : find n l with
      | none => rfl
      | some g =>
        obtain ⟨hm, rfl⟩ := find_some hf
        have := lt_trans hnf (h1 g hm)
        rw [lt_irrefl] at this
        cases this
theorem idx_of {n : Tx} {f : F} : ∀ {l : List F}, Sorted l → find n l = some f → ∃ h : idx n l < l.length, l[idx n l] = f := by
  intro l hs hf
  by_cases h : idx n l < l.length
  · by_cases he : l[idx n l].name = n
    · have := find_at hs h he
      rw [hf] at this
      exact ⟨h, (Option.some.inj this).symm⟩
    · have := find_off hs fun _ => he
      rw [hf] at this
      cases this
  · have := find_off hs fun h2 => absurd h2 h
    rw [hf] at this
    cases this
theorem put_new {f : F} : ∀ {l : List F}, Sorted l → find f.name l = none → put f l = l.take (idx f.name l) ++ f :: l.drop (idx f.name l)
  | [], _, _ => rfl
  | g :: l, hs, hf => by
    obtain ⟨h1, h2⟩ := List.pairwise_cons.1 hs
    rw [find] at hf
    split at hf
    · cases hf
    · rename_i hne
      by_cases hl : lt g.name f.name = true
      · rw [put, if_pos hl, put_new h2 hf, idx, if_pos hl]
        simp
      · rw [put, if_neg hl, if_neg hne, idx, if_neg hl]
        simp
theorem put_old {f : F} : ∀ {l : List F}, Sorted l → find f.name l ≠ none → put f l = l.set (idx f.name l) f
  | [], _, h => absurd rfl h
  | g :: l, hs, h => by
    obtain ⟨h1, h2⟩ := List.pairwise_cons.1 hs
    by_cases hl : lt g.name f.name = true
    · have hne : ¬ g.name = f.name := fun e => by rw [e, lt_irrefl] at hl; cases hl
      rw [find, if_neg hne] at h
      rw [put, if_pos hl, put_old h2 h, idx, if_pos hl, List.set_cons_succ]
    · by_cases he : g.name = f.name
      · rw [put, if_neg hl, if_pos he, idx, if_neg hl, List.set_cons_zero]
      · exact absurd (find_ahead (not_lt_cases hl he) h1) h
theorem del_old {n : Tx} : ∀ {l : List F}, Sorted l → find n l ≠ none → del n l = l.take (idx n l) ++ l.drop (idx n l + 1)
  | [], _, h => absurd rfl h
  | g :: l, hs, h => by
    obtain ⟨h1, h2⟩ := List.pairwise_cons.1 hs
    by_cases hl : lt g.name n = true
    · have hne : ¬ g.name = n := fun e => by rw [e, lt_irrefl] at hl; cases hl
      rw [find, if_neg hne] at h
      rw [del, if_neg hne, del_old h2 h, idx, if_pos hl]
      simp
    · by_cases he : g.name = n
      · have hn : find n l = none := he ▸ find_behind h1
        rw [del, if_pos he, del_none hn, idx, if_neg hl]
        simp
      · have := find_ahead (f := ⟨n, [], 0⟩) (not_lt_cases hl he) h1
        exact absurd this h
end Go.Proofs.Ytamfhndcekcloaa.D
