/-
  Own texts, joined: EventSpec EventMore
-/
import Derived.Test.YtmfhipjceeijmaaGreatBun2
import Derived.Test.YtmfhipjceeijmaaGreatBun3

/-
  Events and batches of the document's chapter 5, over lists of bytes: what is right, what fits, their bytes, and what is taken. No program in this text.
-/
namespace Go.Proofs.YtmfhipjceeijmaaGreat.E
open K

abbrev Ev : Type := List UInt8 × List UInt8
def right (e : Ev) : Bool := nameL e.1 && decide (e.2.length ≤ 200)
theorem right_bd {e : Ev} (h : right e = true) : e.1.length ≤ 128 ∧ e.2.length ≤ 200 ∧ nameL e.1 = true := by
  unfold right at h
  simp only [Bool.and_eq_true, decide_eq_true_eq] at h
  exact ⟨(nameL_len h.1).2, h.2, h.1⟩
structure Bat where
  stream : List UInt8
  expect : Int
  session : Int
  seq : Int
  events : List Ev
def large : Int := 274877906944
def headOk (b : Bat) : Prop := nameL b.stream = true ∧ -1 ≤ b.expect ∧ b.expect ≤ large ∧ 1 ≤ b.session ∧ b.session ≤ large ∧ 1 ≤ b.seq ∧ b.seq ≤ large ∧ 0 < b.events.length
instance (b : Bat) : Decidable (headOk b) := inferInstanceAs (Decidable (_ ∧ _))
/-- What is wrong with a batch: 0, if nothing is. -/
def fits (b : Bat) : Nat := if ¬ headOk b then 1 else if 8 < b.events.length then 4 else if b.events.all right = true then 0 else 1
theorem fits_head {b : Bat} (h : ¬ headOk b) : fits b = 1 := by unfold fits; rw [if_pos h]
theorem fits_long {b : Bat} (h : headOk b) (h8 : 8 < b.events.length) : fits b = 4 := by unfold fits; rw [if_neg (by simpa using h), if_pos h8]
theorem fits_bad {b : Bat} (h : headOk b) (h8 : ¬ 8 < b.events.length) (hr : b.events.all right = false) : fits b = 1 := by
  unfold fits; rw [if_neg (by simpa using h), if_neg h8, if_neg (by rw [hr]; decide)]
theorem fits_ok {b : Bat} (h : headOk b) (h8 : ¬ 8 < b.events.length) (hr : b.events.all right = true) : fits b = 0 := by
  unfold fits; rw [if_neg (by simpa using h), if_neg h8, if_pos hr]
theorem fits_inv {b : Bat} (h : fits b = 0) : headOk b ∧ b.events.length ≤ 8 ∧ b.events.all right = true := by
  by_cases h1 : headOk b
  · by_cases h2 : 8 < b.events.length
    · rw [fits_long h1 h2] at h; cases h
    · cases h3 : b.events.all right
      · rw [fits_bad h1 h2 h3] at h; cases h
      · exact ⟨h1, by omega, rfl⟩
  · rw [fits_head h1] at h; cases h
theorem fits_cases (b : Bat) : fits b = 0 ∨ fits b = 1 ∨ fits b = 4 := by
  unfold fits
  repeat' split
  all_goals simp
def putE (e : Ev) : List UInt8 := N.putT e.1 ++ N.putT e.2
def putEv (e : Ev) : List UInt8 := if right e = true then putE e else []
def bytes (b : Bat) : List UInt8 := N.putT b.stream ++ (N.putL (N.zigN b.expect) ++ (N.putL (N.held b.session) ++ (N.putL (N.held b.seq) ++ (N.putL b.events.length ++ b.events.flatMap putE))))
def putBat (b : Bat) : List UInt8 := if fits b = 0 then bytes b else []
theorem putEv_ok {e : Ev} (h : right e = true) : putEv e = putE e := by unfold putEv; rw [if_pos h]
theorem putEv_bad {e : Ev} (h : right e = false) : putEv e = [] := by unfold putEv; rw [if_neg (by rw [h]; decide)]
theorem putBat_ok {b : Bat} (h : fits b = 0) : putBat b = bytes b := by unfold putBat; rw [if_pos h]
theorem putBat_bad {b : Bat} (h : fits b ≠ 0) : putBat b = [] := by unfold putBat; rw [if_neg h]

/-- An event, right or not. -/
def parts (l : List UInt8) : Rd Ev := bind (N.takeT l 200) fun a r => bind (N.takeT r 200) fun b q => Sum.inl ((a, b), q)
theorem partsC : Codec (fun p : Ev => txtOk 200 p.1 ∧ txtOk 200 p.2) putE parts := (texts (most := 200) (by omega)).pair (texts (most := 200) (by omega))
def takeEv (l : List UInt8) : Rd Ev := bind (parts l) fun a r => if right a = true then Sum.inl (a, r) else Sum.inr 2
theorem evC : Codec (fun e => (txtOk 200 e.1 ∧ txtOk 200 e.2) ∧ right e = true) putE takeEv := partsC.only right 2
theorem ev_ok {e : Ev} (h : right e = true) : (txtOk 200 e.1 ∧ txtOk 200 e.2) ∧ right e = true := by
  have := right_bd h
  unfold txtOk
  exact ⟨⟨by omega, by omega⟩, h⟩

abbrev Tup : Type := List UInt8 × Int × Int × Int × List Ev
def ofT (t : Tup) : Bat := ⟨t.1, t.2.1, t.2.2.1, t.2.2.2.1, t.2.2.2.2⟩
def toT (b : Bat) : Tup := (b.stream, b.expect, b.session, b.seq, b.events)
def batOk (b : Bat) : Prop := txtOk 200 b.stream ∧ zigOk b.expect ∧ intOk b.session ∧ intOk b.seq ∧ b.events.length ≤ 8 ∧ ∀ x ∈ b.events, txtOk 200 x.1 ∧ txtOk 200 x.2
def takeBat (l : List UInt8) : Rd Bat :=
  bind (N.takeT l 200) fun st r1 => bind (N.takeL r1) fun ex r2 => bind (N.takeL r2) fun se r3 => bind (N.takeL r3) fun sq r4 => bind (N.takeL r4) fun m r5 =>
    if 8 < m then Sum.inr 4 else bind (takeN parts m r5) fun evs r6 =>
      if fits ⟨st, N.zag ex, se, sq, evs⟩ = 0 then Sum.inl (⟨st, N.zag ex, se, sq, evs⟩, r6) else Sum.inr 2
theorem bind_assoc {α β γ : Type} (x : Rd α) (f : α → List UInt8 → Rd β) (g : β → List UInt8 → Rd γ) : bind (bind x f) g = bind x fun a r => bind (f a r) g := by
  rcases K.cases x with ⟨e, h⟩ | ⟨a, r, h⟩ <;> subst h <;> rfl
theorem bind_if {α β : Type} (c : Prop) [Decidable c] (e : Nat) (y : Rd α) (g : α → List UInt8 → Rd β) : bind (if c then Sum.inr e else y) g = if c then Sum.inr e else bind y g := by
  by_cases h : c
  · rw [if_pos h, if_pos h]; rfl
  · rw [if_neg h, if_neg h]
theorem bind_pure {α β : Type} (a : α) (r : List UInt8) (g : α → List UInt8 → Rd β) : bind (Sum.inl (a, r)) g = g a r := rfl
theorem batC : Codec (fun b => batOk b ∧ decide (fits b = 0) = true) bytes takeBat := by
  have C0 := (texts (most := 200) (by omega)).pair (zigs.pair (ints.pair (ints.pair (partsC.counted (most := 8) (by omega)))))
  have C1 := (C0.map ofT toT (ok' := batOk) (fun a h => ⟨rfl, h⟩) (fun b h => ⟨rfl, h⟩)).only (fun b => decide (fits b = 0)) 2
  have e : takeBat = fun l => bind (bind (bind (N.takeT l ((200 : Nat) : Int)) fun a r => bind (bind (bind (N.takeL r) fun n r => Sum.inl (N.zag n, r)) fun a r => bind (bind (bind (N.takeL r) fun n r => Sum.inl ((n : Int), r)) fun a r => bind (bind (bind (N.takeL r) fun n r => Sum.inl ((n : Int), r)) fun a r => bind (bind (N.takeL r) fun n r => if 8 < n then Sum.inr 4 else takeN parts n r) fun b q => Sum.inl ((a, b), q)) fun b q => Sum.inl ((a, b), q)) fun b q => Sum.inl ((a, b), q)) fun b q => Sum.inl ((a, b), q)) fun a r => Sum.inl (ofT a, r)) fun a r => if decide (fits a = 0) = true then Sum.inl (a, r) else Sum.inr 2 := by
    funext l
    simp only [bind_assoc, bind_if, bind_pure, decide_eq_true_eq]
    rfl
  rw [e]
  exact C1
theorem bat_ok {b : Bat} (h : fits b = 0) : batOk b ∧ decide (fits b = 0) = true := by
  obtain ⟨⟨h1, h2, h3, h4, h5, h6, h7, h8⟩, h9, h10⟩ := fits_inv h
  have hl : large = 274877906944 := rfl
  refine ⟨⟨?_, ?_, ?_, ?_, h9, ?_⟩, by rw [h]; rfl⟩
  · have := nameL_len h1; unfold txtOk; omega
  · unfold zigOk; omega
  · unfold intOk; omega
  · unfold intOk; omega
  · intro x hx
    exact (ev_ok (List.all_eq_true.1 h10 x hx)).1
theorem take_put {b : Bat} (h : fits b = 0) (r : List UInt8) : takeBat (bytes b ++ r) = Sum.inl (b, r) := batC.back b r (bat_ok h)
theorem take_inv {l r : List UInt8} {b : Bat} (h : takeBat l = Sum.inl (b, r)) : l = bytes b ++ r ∧ fits b = 0 := by
  obtain ⟨h1, h2⟩ := batC.inv l b r h
  exact ⟨h1, by simpa using h2.2⟩
theorem take_less {b : Bat} (h : fits b = 0) : takeBat ((bytes b).take ((bytes b).length - 1)) = Sum.inr 3 := by
  refine batC.last (bat_ok h) ?_
  have := N.putL_pos b.stream.length
  unfold bytes N.putT
  simp only [List.length_append]
  omega
theorem bytes_inj {a b : Bat} (ha : fits a = 0) (hb : fits b = 0) (h : bytes a = bytes b) : a = b := batC.inj (bat_ok ha) (bat_ok hb) h
theorem ev_put {e : Ev} (h : right e = true) (r : List UInt8) : takeEv (putE e ++ r) = Sum.inl (e, r) := evC.back e r (ev_ok h)
theorem ev_inv {l r : List UInt8} {e : Ev} (h : takeEv l = Sum.inl (e, r)) : l = putE e ++ r ∧ right e = true := by
  obtain ⟨h1, h2⟩ := evC.inv l e r h
  exact ⟨h1, h2.2⟩
theorem ev_less {e : Ev} (h : right e = true) : takeEv ((putE e).take ((putE e).length - 1)) = Sum.inr 3 := by
  refine evC.last (ev_ok h) ?_
  have := N.putL_pos e.1.length
  unfold putE N.putT
  simp only [List.length_append]
  omega
theorem putE_len {e : Ev} (h1 : e.1.length ≤ 1000) (h2 : e.2.length ≤ 1000) : (putE e).length ≤ 2012 := by
  have a := N.putT_len (l := e.1) (by omega)
  have b := N.putT_len (l := e.2) (by omega)
  unfold putE
  rw [List.length_append]
  omega
theorem flat_len : ∀ (xs : List Ev), (∀ e ∈ xs, e.1.length ≤ 1000 ∧ e.2.length ≤ 1000) → (xs.flatMap putE).length ≤ 2012 * xs.length
  | [], _ => by simp
  | x :: xs, h => by
    have a := putE_len (h x (by simp)).1 (h x (by simp)).2
    have b := flat_len xs fun e he => h e (by simp [he])
    rw [List.flatMap_cons, List.length_append, List.length_cons]
    omega
theorem bytes_len {b : Bat} (h : fits b = 0) : (bytes b).length ≤ 20000 := by
  obtain ⟨⟨h1, _⟩, h9, h10⟩ := fits_inv h
  have a1 := nameL_len h1
  have a2 := N.putT_len (l := b.stream) (by omega)
  have a3 := N.putL_len6 (N.zigN_le b.expect)
  have a4 := N.putL_len6 (N.held_le b.session)
  have a5 := N.putL_len6 (N.held_le b.seq)
  have a6 := N.putL_len6 (m := b.events.length) (by omega)
  have a7 := flat_len b.events fun e he => by
    have := right_bd (List.all_eq_true.1 h10 e he)
    omega
  unfold bytes
  simp only [List.length_append]
  omega
end Go.Proofs.YtmfhipjceeijmaaGreat.E

/-
  More of events and batches over lists of bytes: an error is none of 0.
-/
namespace Go.Proofs.YtmfhipjceeijmaaGreat.K

def Errs {α : Type} (x : Rd α) : Prop := ∀ e, x = Sum.inr e → 0 < e
theorem bind_errs {α β : Type} {x : Rd α} {f : α → List UInt8 → Rd β} (hx : Errs x) (hf : ∀ a r, Errs (f a r)) : Errs (bind x f) := by
  intro e h
  rcases cases x with ⟨c, hc⟩ | ⟨a, r, hc⟩
  · rw [bind_bad f hc] at h
    have := Sum.inr.inj h
    subst this
    exact hx _ hc
  · rw [bind_ok f hc] at h; exact hf a r e h
theorem ok_errs {α : Type} (a : α) (r : List UInt8) : Errs (Sum.inl (a, r) : Rd α) := fun e h => by cases h
theorem bad_errs {α : Type} {c : Nat} (hc : 0 < c) : Errs (Sum.inr c : Rd α) := fun e h => by have := Sum.inr.inj h; omega
theorem if_errs {α : Type} {c : Prop} [Decidable c] {x y : Rd α} (hx : Errs x) (hy : Errs y) : Errs (if c then x else y) := by
  by_cases h : c
  · rw [if_pos h]; exact hx
  · rw [if_neg h]; exact hy
theorem takeG_errs : ∀ (g n : Nat) (l : List UInt8) (e : Nat), N.takeG g n l = .bad e → 0 < e
  | g, n, [], e, h => by rw [N.takeG_nil] at h; cases h; omega
  | 0, n, c :: r, e, h => by rw [N.takeG_out] at h; cases h; omega
  | g + 1, n, c :: r, e, h => by
    rw [N.takeG] at h
    split at h
    · exact takeG_errs g _ r e h
    · split at h
      · cases h; omega
      · split at h <;> cases h <;> omega
theorem num_errs (l : List UInt8) : Errs (N.takeL l) := fun e h => takeG_errs 6 0 l e h
theorem txt_errs (l : List UInt8) (m : Int) : Errs (N.takeT l m) := by
  intro e h
  rcases N.takeL_cases l with ⟨c, hc⟩ | ⟨n, r, hc⟩
  · rw [N.takeT_bad m hc] at h
    cases h
    exact num_errs l _ hc
  · by_cases h1 : m < n
    · rw [N.takeT_long hc h1] at h; cases h; omega
    · by_cases h2 : r.length < n
      · rw [N.takeT_short hc h1 h2] at h; cases h; omega
      · rw [N.takeT_ok hc h1 h2] at h; cases h
theorem takeN_errs {α : Type} {take : List UInt8 → Rd α} (h : ∀ l, Errs (take l)) : ∀ (n : Nat) (l : List UInt8), Errs (takeN take n l)
  | 0, _ => ok_errs _ _
  | n + 1, l => bind_errs (h l) fun _ r => bind_errs (takeN_errs h n r) fun _ _ => ok_errs _ _
end Go.Proofs.YtmfhipjceeijmaaGreat.K
namespace Go.Proofs.YtmfhipjceeijmaaGreat.E
open K
theorem parts_errs (l : List UInt8) : Errs (parts l) := bind_errs (txt_errs _ _) fun _ _ => bind_errs (txt_errs _ _) fun _ _ => ok_errs _ _
theorem ev_errs (l : List UInt8) : Errs (takeEv l) := bind_errs (parts_errs _) fun _ _ => if_errs (ok_errs _ _) (bad_errs (by omega))
theorem bat_errs (l : List UInt8) : Errs (takeBat l) :=
  bind_errs (txt_errs _ _) fun _ _ => bind_errs (num_errs _) fun _ _ => bind_errs (num_errs _) fun _ _ => bind_errs (num_errs _) fun _ _ => bind_errs (num_errs _) fun _ _ =>
    if_errs (bad_errs (by omega)) (bind_errs (takeN_errs parts_errs _ _) fun _ _ => if_errs (ok_errs _ _) (bad_errs (by omega)))
end Go.Proofs.YtmfhipjceeijmaaGreat.E
namespace Go.Proofs.YtmfhipjceeijmaaGreat
def E.sameB (a b : E.Bat) : Bool := decide (a.stream = b.stream ∧ a.expect = b.expect ∧ a.session = b.session ∧ a.seq = b.seq ∧ a.events = b.events)
theorem E.sameB_iff {a b : E.Bat} : E.sameB a b = true ↔ a = b := by
  unfold E.sameB
  rw [decide_eq_true_eq]
  constructor
  · rintro ⟨h1, h2, h3, h4, h5⟩
    cases a; cases b
    simp_all
  · rintro rfl
    exact ⟨rfl, rfl, rfl, rfl, rfl⟩
theorem E.sameB_self (a : E.Bat) : E.sameB a a = true := E.sameB_iff.2 rfl
theorem E.sameB_ne {a b : E.Bat} (h : ¬ (a.stream = b.stream ∧ a.expect = b.expect ∧ a.session = b.session ∧ a.seq = b.seq ∧ a.events = b.events)) : E.sameB a b = false := by
  unfold E.sameB; exact decide_eq_false h
theorem ev_step {xs ys : List E.Ev} {k : Nat} (hx : k < xs.length) (hy : k < ys.length) (ht : xs.take k = ys.take k) (he : xs[k] = ys[k]) : xs.take (k + 1) = ys.take (k + 1) := by
  rw [List.take_succ_eq_append_getElem hx, List.take_succ_eq_append_getElem hy, ht, he]
end Go.Proofs.YtmfhipjceeijmaaGreat
