/-
  More of chapter 6 over lists: rows of plain entries whose epochs do not fall, and their marks. No program in this text.
-/
import Derived.Test.YtfhopgficckjkaaRecordPlain
namespace Go.Proofs.Ytfhopgficckjkaa
open R

theorem lastE_map : ∀ (l : List En) (o : Option Int), lastE o l = (l.getLast?.map (·.epoch)).or o
  | [], o => by simp [lastE]
  | e :: l, o => by
    rw [lastE, lastE_map l, List.getLast?_cons]
    cases l.getLast? <;> simp
theorem lastQ_le {l : List En} {x q : Int} (h : lastE none l = some x) : lastQ l q = x := by
  rw [lastE_map] at h
  unfold lastQ
  cases hg : l.getLast? with
  | none => rw [hg] at h; simp at h
  | some e => rw [hg] at h; simp at h; simp [h]
theorem lastP_at {l : List En} {p q : Int} (h : follows l p q = true) : lastP l p = p + l.length := by
  unfold lastP
  rw [List.getLast?_eq_getElem?]
  by_cases h0 : l.length = 0
  · rw [List.getElem?_eq_none (by omega)]; simp; omega
  · rw [List.getElem?_eq_getElem (by omega)]
    have := follows_pos h (l.length - 1) (by omega)
    simp [this]; omega
/-- A row of plain entries that is being made: it goes on from p, its last epoch is ep, it has so many marks. -/
structure Made (p : Int) (l : List En) (ep : Int) (many : Nat) : Prop where
  fol : follows l p 0 = true
  fst : l.length = 0 → ep = 1 ∧ many = 0
  lst : 0 < l.length → lastE none l = some ep
  num : (marks l).length = many
  low : 1 ≤ ep
  upp : ep ≤ 1 + 2 * l.length
theorem made_nil (p : Int) : Made p [] 1 0 := ⟨rfl, fun _ => ⟨rfl, rfl⟩, fun h => absurd h (Nat.lt_irrefl _), rfl, by omega, by omega⟩
theorem made_last {p : Int} {l : List En} {ep : Int} {many : Nat} (h : Made p l ep many) : lastQ l 0 ≤ ep := by
  by_cases h0 : l.length = 0
  · have : l = [] := List.length_eq_zero_iff.1 h0
    subst this
    have := h.low
    show (0 : Int) ≤ ep
    omega
  · rw [lastQ_le (h.lst (by omega))]
    exact Int.le_refl _
theorem made_follows {p : Int} {l : List En} {ep : Int} {many : Nat} (h : Made p l ep many) {e2 : Int} (he : ep ≤ e2) (hp : 0 ≤ p) (hpu : p + l.length < 274877906944) (heu : e2 ≤ 274877906944) : follows (l ++ [plainE (p + l.length + 1) e2]) p 0 = true := by
  rw [follows_append]
  refine ⟨h.fol, ?_⟩
  rw [lastP_at h.fol]
  have h1 := made_last h
  have h2 := h.low
  exact follows_cons.2 ⟨plain_right (by omega) (by omega) (by omega) heu, rfl, Int.le_trans h1 he, rfl⟩
theorem made_new {p : Int} {l : List En} {ep : Int} {many : Nat} (h : Made p l ep many) {k : Int} (hk : 0 ≤ k) (hk2 : k ≤ 2) (hn : l.length = 0 ∨ 0 < k) (hp : 0 ≤ p) (hpu : p + l.length < 274877906944) (hlu : l.length ≤ 1000) : Made p (l ++ [plainE (p + l.length + 1) (ep + k)]) (ep + k) (many + 1) := by
  have hu := h.upp
  have hlo := h.low
  refine ⟨made_follows h (by omega) hp hpu (by omega), fun h0 => by simp at h0, fun _ => by rw [lastE_snoc]; rfl, ?_, by omega, by simp; omega⟩
  unfold marks
  rw [marksF_snoc, if_neg, List.length_append]
  · have := h.num; unfold marks at this; rw [this]; rfl
  · intro h5
    rcases hn with h0 | h0
    · have : l = [] := List.length_eq_zero_iff.1 h0
      subst this
      cases h5
    · by_cases h1 : l.length = 0
      · have : l = [] := List.length_eq_zero_iff.1 h1
        subst this
        cases h5
      · rw [h.lst (by omega)] at h5
        have h6 : ep = ep + k := Option.some.inj h5
        omega
theorem made_same {p : Int} {l : List En} {ep : Int} {many : Nat} (h : Made p l ep many) (hn : 0 < l.length) (hp : 0 ≤ p) (hpu : p + l.length < 274877906944) (hlu : l.length ≤ 1000) : Made p (l ++ [plainE (p + l.length + 1) ep]) ep many := by
  have hu := h.upp
  have hlo := h.low
  refine ⟨made_follows h (by omega) hp hpu (by omega), fun h0 => by simp at h0, fun _ => by rw [lastE_snoc]; rfl, ?_, by omega, by simp; omega⟩
  unfold marks
  rw [marksF_snoc, if_pos (by rw [h.lst hn]; rfl), List.append_nil]
  exact h.num
/-- The marks of entries that follow one another rise. -/
theorem marksF_rise : ∀ (l : List En) (p x : Int), follows l p x = true → (∀ m ∈ marksF (some x) l, x < m.1 ∧ p < m.2) ∧ (marksF (some x) l).Pairwise fun a b => a.1 < b.1 ∧ a.2 < b.2
  | [], _, _, _ => ⟨by simp [marksF], List.Pairwise.nil⟩
  | e :: l, p, x, h => by
    obtain ⟨_, h2, h3, h4⟩ := follows_cons.1 h
    obtain ⟨i1, i2⟩ := marksF_rise l e.pos e.epoch h4
    rw [marksF]
    split
    · rename_i he
      have he2 : x = e.epoch := Option.some.inj he
      refine ⟨fun m hm => ?_, i2⟩
      have := i1 m hm
      omega
    · rename_i he
      have he2 : x ≠ e.epoch := fun h => he (by rw [h])
      refine ⟨fun m hm => ?_, List.pairwise_cons.2 ⟨fun m hm => i1 m hm, i2⟩⟩
      rcases List.mem_cons.1 hm with rfl | hm
      · exact ⟨by omega, by omega⟩
      · have := i1 m hm
        omega
theorem marks_rise {l : List En} {p q : Int} (h : follows l p q = true) : (marks l).Pairwise fun a b => a.1 < b.1 ∧ a.2 < b.2 := by
  cases l with
  | nil => exact List.Pairwise.nil
  | cons e l =>
    obtain ⟨i1, i2⟩ := marksF_rise l e.pos e.epoch (follows_cons.1 h).2.2.2
    show (marksF none (e :: l)).Pairwise _
    rw [marksF, if_neg (by intro h; cases h)]
    exact List.pairwise_cons.2 ⟨fun m hm => i1 m hm, i2⟩
theorem rise_next {ms : List Mk} (h : ms.Pairwise fun a b => a.1 < b.1 ∧ a.2 < b.2) {i : Nat} (hi : i + 1 < ms.length) : ms[i].1 < ms[i + 1].1 ∧ ms[i].2 < ms[i + 1].2 :=
  List.pairwise_iff_getElem.1 h i (i + 1) (by omega) hi (Nat.lt_succ_self _)
/-- What is left of a number, without its sign. -/
def ab (z n : Int) : Int := max (z.tmod n) (-(z.tmod n))
theorem tmod_bd (z : Int) {n : Int} (hn : 0 < n) : -n < z.tmod n ∧ z.tmod n < n := by
  have h1 := Int.tmod_lt_of_pos z hn
  have h2 := Int.lt_tmod_of_pos z hn
  omega
theorem ab_bd (z : Int) {n : Int} (hn : 0 < n) : 0 ≤ ab z n ∧ ab z n < n := by
  have := tmod_bd z hn
  unfold ab
  omega
end Go.Proofs.Ytfhopgficckjkaa
