/-
  More of chapter 6 over lists: a log, and a second one that parts from it. No program in this text.
-/
import Derived.Test.YtfhopgficckjkaaRecordMore2
namespace Go.Proofs.Ytfhopgficckjkaa

theorem lastQ_ge : ∀ (l : List R.En) (p x : Int), R.follows l p x = true → x ≤ R.lastQ l x
  | [], _, x, _ => Int.le_refl _
  | e :: l, p, x, h => by
    obtain ⟨_, _, h3, h4⟩ := R.follows_cons.1 h
    rw [R.lastQ_cons]
    exact Int.le_trans h3 (lastQ_ge l e.pos e.epoch h4)
theorem epochs_le : ∀ (l : List R.En) (p x : Int), R.follows l p x = true → ∀ e ∈ l, e.epoch ≤ R.lastQ l x
  | [], _, _, _, e, he => by simp at he
  | a :: l, p, x, h, e, he => by
    obtain ⟨_, _, _, h4⟩ := R.follows_cons.1 h
    rw [R.lastQ_cons]
    rcases List.mem_cons.1 he with rfl | he
    · exact lastQ_ge l _ _ h4
    · exact epochs_le l a.pos a.epoch h4 e he
theorem made_le {p : Int} {l : List R.En} {ep : Int} {many : Nat} (h : Made p l ep many) : ∀ e ∈ l, e.epoch ≤ ep := fun e he => Int.le_trans (epochs_le l p 0 h.fol e he) (made_last h)
/-- The second log: what it is made of. -/
structure Second (l : List R.En) (k : Nat) (E : Int) (i : Nat) (lb : List R.En) : Prop where
  fol : R.follows lb 0 0 = true
  len : lb.length = k + i
  pre : lb.take k = l.take k
  new : ∀ j (h : j < lb.length), k ≤ j → lb[j].epoch = E
  low : R.lastQ lb 0 ≤ E
theorem second_start {l : List R.En} {k : Nat} {ep E : Int} {many : Nat} (h : Made 0 l ep many) (hk : k ≤ l.length) (hE : ep < E) : Second l k E 0 (l.take k) := by
  have hf := h.fol
  rw [← List.take_append_drop k l, R.follows_append] at hf
  have hl : (l.take k).length = k := by rw [List.length_take]; omega
  refine ⟨hf.1, by rw [hl]; rfl, by rw [List.take_take, Nat.min_self], fun j hj hkj => by rw [hl] at hj; omega, ?_⟩
  by_cases h0 : (l.take k).length = 0
  · have : l.take k = [] := List.length_eq_zero_iff.1 h0
    rw [this]
    have := h.low
    show (0 : Int) ≤ E
    omega
  · have hg : (l.take k).getLast? = some ((l.take k)[(l.take k).length - 1]'(by omega)) := by rw [List.getLast?_eq_getElem?, List.getElem?_eq_getElem (by omega)]
    unfold R.lastQ
    rw [hg]
    have := made_le h _ (List.mem_of_mem_take (List.getElem_mem (l := l.take k) (n := (l.take k).length - 1) (by omega)))
    show (l.take k)[(l.take k).length - 1].epoch ≤ E
    omega
theorem second_next {l : List R.En} {k i : Nat} {E : Int} {lb : List R.En} (h : Second l k E i lb) (hE : 1 ≤ E) (hE2 : E ≤ 274877906944) (hk : k + i < 1000) : Second l k E (i + 1) (lb ++ [plainE (k + i + 1) E]) := by
  have hl := h.len
  refine ⟨?_, by rw [List.length_append, hl]; rfl, ?_, fun j hj hkj => ?_, ?_⟩
  · rw [R.follows_append]
    refine ⟨h.fol, ?_⟩
    rw [lastP_at h.fol, hl]
    exact R.follows_cons.2 ⟨plain_right (by omega) (by omega) hE hE2, by show ((k : Int) + i + 1) = 0 + ((k + i : Nat) : Int) + 1; omega, h.low, rfl⟩
  · rw [List.take_append_of_le_length (by omega)]; exact h.pre
  · by_cases hj2 : j < lb.length
    · rw [List.getElem_append_left hj2]; exact h.new j hj2 hkj
    · have : j = lb.length := by rw [List.length_append] at hj; simp at hj; omega
      subst this
      simp [plainE]
  · unfold R.lastQ
    simp [plainE]
theorem second_fork {l lb : List R.En} {k i : Nat} {ep E : Int} {many : Nat} (h : Made 0 l ep many) (hk : k ≤ l.length) (hE : ep < E) (h2 : Second l k E i lb) :
    R.fork (R.marks l) l.length (R.marks lb) lb.length = k := by
  have hl := h2.len
  have ra : R.Runs l 1 := R.runs_of_follows h.fol
  have rb : R.Runs lb 1 := R.runs_of_follows h2.fol
  refine R.fork_logs ra rb hk (by omega) (fun j j1 j2 hj => ?_) (fun j1 j2 => ?_)
  · have e1 : (lb.take k)[j]'(by rw [List.length_take]; omega) = (l.take k)[j]'(by rw [List.length_take]; omega) := by simp only [h2.pre]
    have e2 : lb[j] = l[j] := by simpa using e1
    have h3 := (R.right_iff.1 (R.follows_right h.fol _ (List.getElem_mem j1))).2.2.1
    rw [e2]
    exact ⟨rfl, by omega⟩
  · have h3 := made_le h _ (List.getElem_mem j1)
    have h4 := h2.new k j2 (Nat.le_refl _)
    rw [h4]
    omega
theorem made_self {l : List R.En} {ep : Int} {many : Nat} (h : Made 0 l ep many) : R.fork (R.marks l) l.length (R.marks l) l.length = l.length :=
  R.fork_self (R.runs_of_follows h.fol) fun e he => by have := (R.right_iff.1 (R.follows_right h.fol e he)).2.2.1; omega
end Go.Proofs.Ytfhopgficckjkaa
