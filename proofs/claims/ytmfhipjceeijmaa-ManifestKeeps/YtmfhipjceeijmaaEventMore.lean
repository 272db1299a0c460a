/-
  More of events and batches over lists of bytes: an error is none of 0.
-/
import Derived.Test.YtmfhipjceeijmaaEventSpec
namespace Go.Proofs.Ytmfhipjceeijmaa.K

def Errs {α : Type} (x : Rd α) : Prop := ∀ e, x = Sum.inr e → 0 < e
theorem bind_errs {α β : Type} {x : Rd α} {f : α → List UInt8 → Rd β} (hx : Errs x) (hf : ∀ a r, Errs (f a r)) : Errs (bind x f) := by
  intro e h
  rcases cases x with ⟨c, hc⟩ | ⟨a, r, hc⟩
  · rw [bind_bad f hc] at h
    have := Sum.inr.inj h
    subst this
    exact hx _ hc
  · rw [bind_ok f hc] at h; exact hf a r e h
theorem ok_errs {α : Type} (a : α) (r : List UInt8) : Errs (Sum.inl (a, r) : Rd α) := fun e h => by cases h
theorem bad_errs {α : Type} {c : Nat} (hc : 0 < c) : Errs (Sum.inr c : Rd α) := fun e h => by have := Sum.inr.inj h; omega
theorem if_errs {α : Type} {c : Prop} [Decidable c] {x y : Rd α} (hx : Errs x) (hy : Errs y) : Errs (if c then x else y) := by
  by_cases h : c
  · rw [if_pos h]; exact hx
  · rw [if_neg h]; exact hy
theorem takeG_errs : ∀ (g n : Nat) (l : List UInt8) (e : Nat), N.takeG g n l = .bad e → 0 < e
  | g, n, [], e, h => by rw [N.takeG_nil] at h; cases h; omega
  | 0, n, c :: r, e, h => by rw [N.takeG_out] at h; cases h; omega
  | g + 1, n, c :: r, e, h => by
    rw [N.takeG] at h
    split at h
    · exact takeG_errs g _ r e h
    · split at h
      · cases h; omega
      · split at h <;> cases h <;> omega
theorem num_errs (l : List UInt8) : Errs (N.takeL l) := fun e h => takeG_errs 6 0 l e h
theorem txt_errs (l : List UInt8) (m : Int) : Errs (N.takeT l m) := by
  intro e h
  rcases N.takeL_cases l with ⟨c, hc⟩ | ⟨n, r, hc⟩
  · rw [N.takeT_bad m hc] at h
    cases h
    exact num_errs l _ hc
  · by_cases h1 : m < n
    · rw [N.takeT_long hc h1] at h; cases h; omega
    · by_cases h2 : r.length < n
      · rw [N.takeT_short hc h1 h2] at h; cases h; omega
      · rw [N.takeT_ok hc h1 h2] at h; cases h
theorem takeN_errs {α : Type} {take : List UInt8 → Rd α} (h : ∀ l, Errs (take l)) : ∀ (n : Nat) (l : List UInt8), Errs (takeN take n l)
  | 0, _ => ok_errs _ _
  | n + 1, l => bind_errs (h l) fun _ r => bind_errs (takeN_errs h n r) fun _ _ => ok_errs _ _
end Go.Proofs.Ytmfhipjceeijmaa.K
namespace Go.Proofs.Ytmfhipjceeijmaa.E
open K
theorem parts_errs (l : List UInt8) : Errs (parts l) := bind_errs (txt_errs _ _) fun _ _ => bind_errs (txt_errs _ _) fun _ _ => ok_errs _ _
theorem ev_errs (l : List UInt8) : Errs (takeEv l) := bind_errs (parts_errs _) fun _ _ => if_errs (ok_errs _ _) (bad_errs (by omega))
theorem bat_errs (l : List UInt8) : Errs (takeBat l) :=
  bind_errs (txt_errs _ _) fun _ _ => bind_errs (num_errs _) fun _ _ => bind_errs (num_errs _) fun _ _ => bind_errs (num_errs _) fun _ _ => bind_errs (num_errs _) fun _ _ =>
    if_errs (bad_errs (by omega)) (bind_errs (takeN_errs parts_errs _ _) fun _ _ => if_errs (ok_errs _ _) (bad_errs (by omega)))
end Go.Proofs.Ytmfhipjceeijmaa.E
namespace Go.Proofs.Ytmfhipjceeijmaa
def E.sameB (a b : E.Bat) : Bool := decide (a.stream = b.stream ∧ a.expect = b.expect ∧ a.session = b.session ∧ a.seq = b.seq ∧ a.events = b.events)
theorem E.sameB_iff {a b : E.Bat} : E.sameB a b = true ↔ a = b := by
  unfold E.sameB
  rw [decide_eq_true_eq]
  constructor
  · rintro ⟨h1, h2, h3, h4, h5⟩
    cases a; cases b
    simp_all
  · rintro rfl
    exact ⟨rfl, rfl, rfl, rfl, rfl⟩
theorem E.sameB_self (a : E.Bat) : E.sameB a a = true := E.sameB_iff.2 rfl
theorem E.sameB_ne {a b : E.Bat} (h : ¬ (a.stream = b.stream ∧ a.expect = b.expect ∧ a.session = b.session ∧ a.seq = b.seq ∧ a.events = b.events)) : E.sameB a b = false := by
  unfold E.sameB; exact decide_eq_false h
theorem ev_step {xs ys : List E.Ev} {k : Nat} (hx : k < xs.length) (hy : k < ys.length) (ht : xs.take k = ys.take k) (he : xs[k] = ys[k]) : xs.take (k + 1) = ys.take (k + 1) := by
  rw [List.take_succ_eq_append_getElem hx, List.take_succ_eq_append_getElem hy, ht, he]
end Go.Proofs.Ytmfhipjceeijmaa
