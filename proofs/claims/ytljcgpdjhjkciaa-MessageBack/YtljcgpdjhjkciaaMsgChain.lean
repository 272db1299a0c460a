/-
  Parts taken one behind the other: what the reader's steps say of the document's.
-/
import Derived.Test.YtljcgpdjhjkciaaMsgList
namespace Go.Proofs.Ytljcgpdjhjkciaa
open Go.RowKit

theorem run_as {α : Type} (f : α → M.Pt) (take : List UInt8 → K.Rd α) (o : Rs) : run (fun l => M.as f (take l)) o = M.as f (run take o) := by cases o <;> rfl
theorem rest_as {α : Type} (f : α → M.Pt) (x : K.Rd α) : rest (M.as f x) = rest x := by rcases x with ⟨a, r⟩ | e <;> rfl
theorem as_inl {α : Type} {f : α → M.Pt} {x : K.Rd α} {p : M.Pt} {r : List UInt8} (h : M.as f x = Sum.inl (p, r)) : ∃ a, x = Sum.inl (a, r) ∧ p = f a := by
  rcases x with ⟨a, q⟩ | e
  · have h2 : Sum.inl (f a, q) = (Sum.inl (p, r) : K.Rd M.Pt) := h
    cases h2
    exact ⟨a, rfl, rfl⟩
  · cases h
/-- The steps of a row of parts. -/
inductive Ch : List M.Lt → Rs → List (K.Rd M.Pt) → Rs → Prop
  | nil (o : Rs) : Ch [] o [] o
  | cons {t : M.Lt} {ts : List M.Lt} {o o2 : Rs} {x : K.Rd M.Pt} {xs : List (K.Rd M.Pt)} (h : run (M.takeP t) o = x) (hc : Ch ts (rest x) xs o2) : Ch (t :: ts) o (x :: xs) o2
def comb : List (K.Rd M.Pt) → Rs → K.Rd (List M.Pt)
  | [], .inl l => Sum.inl ([], l)
  | [], .inr e => Sum.inr e
  | .inr e :: _, _ => Sum.inr e
  | .inl (p, r) :: xs, _ => K.bind (comb xs (.inl r)) fun ps q => Sum.inl (p :: ps, q)
theorem ch_err0 {ts : List M.Lt} {e : Nat} {xs : List (K.Rd M.Pt)} {o o2 : Rs} (h : Ch ts o xs o2) : o = .inr e → o2 = .inr e := by
  induction h with
  | nil o => exact id
  | cons h hc ih =>
    intro ho
    subst ho
    have h2 : (Sum.inr e : K.Rd M.Pt) = _ := h
    subst h2
    exact ih rfl
theorem ch_err {ts : List M.Lt} {e : Nat} {xs : List (K.Rd M.Pt)} {o2 : Rs} (h : Ch ts (.inr e) xs o2) : o2 = .inr e := ch_err0 h rfl
theorem ch_run {ts : List M.Lt} {o o2 : Rs} {xs : List (K.Rd M.Pt)} (h : Ch ts o xs o2) : run (M.takeS M.takeP ts) o = comb xs o ∧ rest (comb xs o) = o2 := by
  induction h with
  | nil o => cases o <;> exact ⟨rfl, rfl⟩
  | cons h hc ih =>
    rename_i t ts o o2 x xs
    match o, h with
    | .inr e, h =>
      have h2 : (Sum.inr e : K.Rd M.Pt) = x := h
      subst h2
      exact ⟨rfl, (ch_err hc).symm⟩
    | .inl l, h =>
      have h2 : M.takeP t l = x := h
      have h3 : run (M.takeS M.takeP (t :: ts)) (.inl l) = K.bind (M.takeP t l) fun p r => K.bind (M.takeS M.takeP ts r) fun ps q => Sum.inl (p :: ps, q) := rfl
      rw [h3, h2]
      rcases x with ⟨p, r⟩ | e
      · have h4 : M.takeS M.takeP ts r = comb xs (.inl r) := ih.1
        refine ⟨?_, ?_⟩
        · show K.bind (M.takeS M.takeP ts r) _ = K.bind (comb xs (.inl r)) _
          rw [h4]
        · have h5 : rest (comb xs (.inl r)) = o2 := ih.2
          show rest (K.bind (comb xs (.inl r)) fun ps q => Sum.inl (p :: ps, q)) = o2
          rcases hcb : comb xs (.inl r) with ⟨ps, q⟩ | e
          · rw [hcb] at h5; exact h5
          · rw [hcb] at h5; exact h5
      · exact ⟨rfl, (ch_err hc).symm⟩
theorem comb_cons {y : K.Rd M.Pt} {ys : List (K.Rd M.Pt)} {o : Rs} {ps : List M.Pt} {r : List UInt8} (h : comb (y :: ys) o = Sum.inl (ps, r)) : ∃ p r1 qs, y = Sum.inl (p, r1) ∧ comb ys (.inl r1) = Sum.inl (qs, r) ∧ ps = p :: qs := by
  rcases y with ⟨p, r1⟩ | e
  · obtain ⟨qs, q, h1, h2⟩ := K.bind_inv h
    cases h2
    exact ⟨p, r1, qs, rfl, h1, rfl⟩
  · cases h
theorem comb_nil {o : Rs} {ps : List M.Pt} {r : List UInt8} (h : comb [] o = Sum.inl (ps, r)) : ps = [] := by
  cases o <;> cases h
  rfl
theorem run_ok {t : M.Lt} {o : Rs} {p : M.Pt} {r : List UInt8} (h : run (M.takeP t) o = Sum.inl (p, r)) : M.okP t p := by
  cases o with
  | inl l => exact ((M.partC t).inv l p r h).2
  | inr e => cases h
theorem ok_ints {l : List Int} (h : M.okP .c (.c l)) : ∀ z ∈ l, i64B z := by
  obtain ⟨l2, e, _, h2⟩ := h
  cases e
  intro z hz
  have := h2 z hz
  unfold K.intOk at this
  unfold i64B
  omega
theorem ok_ens {l : List R.En} (h : M.okP .e (.e l)) : ∀ e ∈ l, R.right e = true := by
  obtain ⟨l2, e, _, h2⟩ := h
  cases e
  exact fun e he => (h2 e he).2
theorem ok_evs {l : List E.Ev} (h : M.okP .v (.v l)) : ∀ e ∈ l, E.right e = true := by
  obtain ⟨l2, e, _, h2⟩ := h
  cases e
  exact fun e he => (h2 e he).2
theorem ok_bat {b : E.Bat} (h : M.okP .b (.b b)) : E.fits b = 0 := by
  obtain ⟨l2, e, _, h2⟩ := h
  cases e
  simpa using h2
theorem ok_txt {x : List UInt8} (h : M.okP .s (.s x)) : x.length ≤ 200 := by
  obtain ⟨l2, e, h2⟩ := h
  cases e
  exact h2
theorem own_later {w w' : World} {p base size n : Nat} {t : TypeId} {v : Value} {xs : List Value} (h : w.ownsRow base t size v n xs) (hg : w.grownBy w' (some p)) (hp : p < base) : w'.ownsRow base t size v n xs := h.kept hg (.inr (own_ne h hp).symm)
theorem run_n (o : Rs) : run (M.takeP .n) o = M.as .n (run M.takeI o) := run_as M.Pt.n M.takeI o
theorem run_c (o : Rs) : run (M.takeP .c) o = M.as .c (run (M.takeC 6 M.takeI) o) := run_as M.Pt.c (M.takeC 6 M.takeI) o
theorem run_m (o : Rs) : run (M.takeP .m) o = M.as .m (run (M.takeC 30 M.takeMk) o) := run_as M.Pt.m (M.takeC 30 M.takeMk) o
theorem run_e (o : Rs) : run (M.takeP .e) o = M.as .e (run (M.takeC 8 R.takeEn) o) := run_as M.Pt.e (M.takeC 8 R.takeEn) o
theorem run_v (o : Rs) : run (M.takeP .v) o = M.as .v (run (M.takeC 16 E.takeEv) o) := run_as M.Pt.v (M.takeC 16 E.takeEv) o
theorem run_b (o : Rs) : run (M.takeP .b) o = M.as .b (run E.takeBat o) := run_as M.Pt.b E.takeBat o
theorem run_s (o : Rs) : run (M.takeP .s) o = M.as .s (run (fun l => N.takeT l ((200 : Nat) : Int)) o) := run_as M.Pt.s (fun l => N.takeT l ((200 : Nat) : Int)) o
end Go.Proofs.Ytljcgpdjhjkciaa
