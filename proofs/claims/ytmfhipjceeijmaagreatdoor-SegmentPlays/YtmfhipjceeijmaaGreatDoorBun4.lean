/-
  Own texts, joined: EventSpec EventMore RecordSpec SegSpec RecordMore
-/
import Derived.Test.YtmfhipjceeijmaaGreatDoorBun2
import Derived.Test.YtmfhipjceeijmaaGreatDoorBun3

/-
  Events and batches of the document's chapter 5, over lists of bytes: what is right, what fits, their bytes, and what is taken. No program in this text.
-/
namespace Go.Proofs.YtmfhipjceeijmaaGreatDoor.E
open K

abbrev Ev : Type := List UInt8 × List UInt8
def right (e : Ev) : Bool := nameL e.1 && decide (e.2.length ≤ 200)
theorem right_bd {e : Ev} (h : right e = true) : e.1.length ≤ 128 ∧ e.2.length ≤ 200 ∧ nameL e.1 = true := by
  unfold right at h
  simp only [Bool.and_eq_true, decide_eq_true_eq] at h
  exact ⟨(nameL_len h.1).2, h.2, h.1⟩
structure Bat where
  stream : List UInt8
  expect : Int
  session : Int
  seq : Int
  events : List Ev
def large : Int := 274877906944
def headOk (b : Bat) : Prop := nameL b.stream = true ∧ -1 ≤ b.expect ∧ b.expect ≤ large ∧ 1 ≤ b.session ∧ b.session ≤ large ∧ 1 ≤ b.seq ∧ b.seq ≤ large ∧ 0 < b.events.length
instance (b : Bat) : Decidable (headOk b) := inferInstanceAs (Decidable (_ ∧ _))
/-- What is wrong with a batch: 0, if nothing is. -/
def fits (b : Bat) : Nat := if ¬ headOk b then 1 else if 8 < b.events.length then 4 else if b.events.all right = true then 0 else 1
theorem fits_head {b : Bat} (h : ¬ headOk b) : fits b = 1 := by unfold fits; rw [if_pos h]
theorem fits_long {b : Bat} (h : headOk b) (h8 : 8 < b.events.length) : fits b = 4 := by unfold fits; rw [if_neg (by simpa using h), if_pos h8]
theorem fits_bad {b : Bat} (h : headOk b) (h8 : ¬ 8 < b.events.length) (hr : b.events.all right = false) : fits b = 1 := by
  unfold fits; rw [if_neg (by simpa using h), if_neg h8, if_neg (by rw [hr]; decide)]
theorem fits_ok {b : Bat} (h : headOk b) (h8 : ¬ 8 < b.events.length) (hr : b.events.all right = true) : fits b = 0 := by
  unfold fits; rw [if_neg (by simpa using h), if_neg h8, if_pos hr]
theorem fits_inv {b : Bat} (h : fits b = 0) : headOk b ∧ b.events.length ≤ 8 ∧ b.events.all right = true := by
  by_cases h1 : headOk b
  · by_cases h2 : 8 < b.events.length
    · rw [fits_long h1 h2] at h; cases h
    · cases h3 : b.events.all right
      · rw [fits_bad h1 h2 h3] at h; cases h
      · exact ⟨h1, by omega, rfl⟩
  · rw [fits_head h1] at h; cases h
theorem fits_cases (b : Bat) : fits b = 0 ∨ fits b = 1 ∨ fits b = 4 := by
  unfold fits
  repeat' split
  all_goals simp
def putE (e : Ev) : List UInt8 := N.putT e.1 ++ N.putT e.2
def putEv (e : Ev) : List UInt8 := if right e = true then putE e else []
def bytes (b : Bat) : List UInt8 := N.putT b.stream ++ (N.putL (N.zigN b.expect) ++ (N.putL (N.held b.session) ++ (N.putL (N.held b.seq) ++ (N.putL b.events.length ++ b.events.flatMap putE))))
def putBat (b : Bat) : List UInt8 := if fits b = 0 then bytes b else []
theorem putEv_ok {e : Ev} (h : right e = true) : putEv e = putE e := by unfold putEv; rw [if_pos h]
theorem putEv_bad {e : Ev} (h : right e = false) : putEv e = [] := by unfold putEv; rw [if_neg (by rw [h]; decide)]
theorem putBat_ok {b : Bat} (h : fits b = 0) : putBat b = bytes b := by unfold putBat; rw [if_pos h]
theorem putBat_bad {b : Bat} (h : fits b ≠ 0) : putBat b = [] := by unfold putBat; rw [if_neg h]

/-- An event, right or not. -/
def parts (l : List UInt8) : Rd Ev := bind (N.takeT l 200) fun a r => bind (N.takeT r 200) fun b q => Sum.inl ((a, b), q)
theorem partsC : Codec (fun p : Ev => txtOk 200 p.1 ∧ txtOk 200 p.2) putE parts := (texts (most := 200) (by omega)).pair (texts (most := 200) (by omega))
def takeEv (l : List UInt8) : Rd Ev := bind (parts l) fun a r => if right a = true then Sum.inl (a, r) else Sum.inr 2
theorem evC : Codec (fun e => (txtOk 200 e.1 ∧ txtOk 200 e.2) ∧ right e = true) putE takeEv := partsC.only right 2
theorem ev_ok {e : Ev} (h : right e = true) : (txtOk 200 e.1 ∧ txtOk 200 e.2) ∧ right e = true := by
  have := right_bd h
  unfold txtOk
  exact ⟨⟨by omega, by omega⟩, h⟩

abbrev Tup : Type := List UInt8 × Int × Int × Int × List Ev
def ofT (t : Tup) : Bat := ⟨t.1, t.2.1, t.2.2.1, t.2.2.2.1, t.2.2.2.2⟩
def toT (b : Bat) : Tup := (b.stream, b.expect, b.session, b.seq, b.events)
def batOk (b : Bat) : Prop := txtOk 200 b.stream ∧ zigOk b.expect ∧ intOk b.session ∧ intOk b.seq ∧ b.events.length ≤ 8 ∧ ∀ x ∈ b.events, txtOk 200 x.1 ∧ txtOk 200 x.2
def takeBat (l : List UInt8) : Rd Bat :=
  bind (N.takeT l 200) fun st r1 => bind (N.takeL r1) fun ex r2 => bind (N.takeL r2) fun se r3 => bind (N.takeL r3) fun sq r4 => bind (N.takeL r4) fun m r5 =>
    if 8 < m then Sum.inr 4 else bind (takeN parts m r5) fun evs r6 =>
      if fits ⟨st, N.zag ex, se, sq, evs⟩ = 0 then Sum.inl (⟨st, N.zag ex, se, sq, evs⟩, r6) else Sum.inr 2
theorem bind_assoc {α β γ : Type} (x : Rd α) (f : α → List UInt8 → Rd β) (g : β → List UInt8 → Rd γ) : bind (bind x f) g = bind x fun a r => bind (f a r) g := by
  rcases K.cases x with ⟨e, h⟩ | ⟨a, r, h⟩ <;> subst h <;> rfl
theorem bind_if {α β : Type} (c : Prop) [Decidable c] (e : Nat) (y : Rd α) (g : α → List UInt8 → Rd β) : bind (if c then Sum.inr e else y) g = if c then Sum.inr e else bind y g := by
  by_cases h : c
  · rw [if_pos h, if_pos h]; rfl
  · rw [if_neg h, if_neg h]
theorem bind_pure {α β : Type} (a : α) (r : List UInt8) (g : α → List UInt8 → Rd β) : bind (Sum.inl (a, r)) g = g a r := rfl
theorem batC : Codec (fun b => batOk b ∧ decide (fits b = 0) = true) bytes takeBat := by
  have C0 := (texts (most := 200) (by omega)).pair (zigs.pair (ints.pair (ints.pair (partsC.counted (most := 8) (by omega)))))
  have C1 := (C0.map ofT toT (ok' := batOk) (fun a h => ⟨rfl, h⟩) (fun b h => ⟨rfl, h⟩)).only (fun b => decide (fits b = 0)) 2
  have e : takeBat = fun l => bind (bind (bind (N.takeT l ((200 : Nat) : Int)) fun a r => bind (bind (bind (N.takeL r) fun n r => Sum.inl (N.zag n, r)) fun a r => bind (bind (bind (N.takeL r) fun n r => Sum.inl ((n : Int), r)) fun a r => bind (bind (bind (N.takeL r) fun n r => Sum.inl ((n : Int), r)) fun a r => bind (bind (N.takeL r) fun n r => if 8 < n then Sum.inr 4 else takeN parts n r) fun b q => Sum.inl ((a, b), q)) fun b q => Sum.inl ((a, b), q)) fun b q => Sum.inl ((a, b), q)) fun b q => Sum.inl ((a, b), q)) fun a r => Sum.inl (ofT a, r)) fun a r => if decide (fits a = 0) = true then Sum.inl (a, r) else Sum.inr 2 := by
    funext l
    simp only [bind_assoc, bind_if, bind_pure, decide_eq_true_eq]
    rfl
  rw [e]
  exact C1
theorem bat_ok {b : Bat} (h : fits b = 0) : batOk b ∧ decide (fits b = 0) = true := by
  obtain ⟨⟨h1, h2, h3, h4, h5, h6, h7, h8⟩, h9, h10⟩ := fits_inv h
  have hl : large = 274877906944 := rfl
  refine ⟨⟨?_, ?_, ?_, ?_, h9, ?_⟩, by rw [h]; rfl⟩
  · have := nameL_len h1; unfold txtOk; omega
  · unfold zigOk; omega
  · unfold intOk; omega
  · unfold intOk; omega
  · intro x hx
    exact (ev_ok (List.all_eq_true.1 h10 x hx)).1
theorem take_put {b : Bat} (h : fits b = 0) (r : List UInt8) : takeBat (bytes b ++ r) = Sum.inl (b, r) := batC.back b r (bat_ok h)
theorem take_inv {l r : List UInt8} {b : Bat} (h : takeBat l = Sum.inl (b, r)) : l = bytes b ++ r ∧ fits b = 0 := by
  obtain ⟨h1, h2⟩ := batC.inv l b r h
  exact ⟨h1, by simpa using h2.2⟩
theorem take_less {b : Bat} (h : fits b = 0) : takeBat ((bytes b).take ((bytes b).length - 1)) = Sum.inr 3 := by
  refine batC.last (bat_ok h) ?_
  have := N.putL_pos b.stream.length
  unfold bytes N.putT
  simp only [List.length_append]
  omega
theorem bytes_inj {a b : Bat} (ha : fits a = 0) (hb : fits b = 0) (h : bytes a = bytes b) : a = b := batC.inj (bat_ok ha) (bat_ok hb) h
theorem ev_put {e : Ev} (h : right e = true) (r : List UInt8) : takeEv (putE e ++ r) = Sum.inl (e, r) := evC.back e r (ev_ok h)
theorem ev_inv {l r : List UInt8} {e : Ev} (h : takeEv l = Sum.inl (e, r)) : l = putE e ++ r ∧ right e = true := by
  obtain ⟨h1, h2⟩ := evC.inv l e r h
  exact ⟨h1, h2.2⟩
theorem ev_less {e : Ev} (h : right e = true) : takeEv ((putE e).take ((putE e).length - 1)) = Sum.inr 3 := by
  refine evC.last (ev_ok h) ?_
  have := N.putL_pos e.1.length
  unfold putE N.putT
  simp only [List.length_append]
  omega
theorem putE_len {e : Ev} (h1 : e.1.length ≤ 1000) (h2 : e.2.length ≤ 1000) : (putE e).length ≤ 2012 := by
  have a := N.putT_len (l := e.1) (by omega)
  have b := N.putT_len (l := e.2) (by omega)
  unfold putE
  rw [List.length_append]
  omega
theorem flat_len : ∀ (xs : List Ev), (∀ e ∈ xs, e.1.length ≤ 1000 ∧ e.2.length ≤ 1000) → (xs.flatMap putE).length ≤ 2012 * xs.length
  | [], _ => by simp
  | x :: xs, h => by
    have a := putE_len (h x (by simp)).1 (h x (by simp)).2
    have b := flat_len xs fun e he => h e (by simp [he])
    rw [List.flatMap_cons, List.length_append, List.length_cons]
    omega
theorem bytes_len {b : Bat} (h : fits b = 0) : (bytes b).length ≤ 20000 := by
  obtain ⟨⟨h1, _⟩, h9, h10⟩ := fits_inv h
  have a1 := nameL_len h1
  have a2 := N.putT_len (l := b.stream) (by omega)
  have a3 := N.putL_len6 (N.zigN_le b.expect)
  have a4 := N.putL_len6 (N.held_le b.session)
  have a5 := N.putL_len6 (N.held_le b.seq)
  have a6 := N.putL_len6 (m := b.events.length) (by omega)
  have a7 := flat_len b.events fun e he => by
    have := right_bd (List.all_eq_true.1 h10 e he)
    omega
  unfold bytes
  simp only [List.length_append]
  omega
end Go.Proofs.YtmfhipjceeijmaaGreatDoor.E

/-
  More of events and batches over lists of bytes: an error is none of 0.
-/
namespace Go.Proofs.YtmfhipjceeijmaaGreatDoor.K

def Errs {α : Type} (x : Rd α) : Prop := ∀ e, x = Sum.inr e → 0 < e
theorem bind_errs {α β : Type} {x : Rd α} {f : α → List UInt8 → Rd β} (hx : Errs x) (hf : ∀ a r, Errs (f a r)) : Errs (bind x f) := by
  intro e h
  rcases cases x with ⟨c, hc⟩ | ⟨a, r, hc⟩
  · rw [bind_bad f hc] at h
    have := Sum.inr.inj h
    subst this
    exact hx _ hc
  · rw [bind_ok f hc] at h; exact hf a r e h
theorem ok_errs {α : Type} (a : α) (r : List UInt8) : Errs (Sum.inl (a, r) : Rd α) := fun e h => by cases h
theorem bad_errs {α : Type} {c : Nat} (hc : 0 < c) : Errs (Sum.inr c : Rd α) := fun e h => by have := Sum.inr.inj h; omega
theorem if_errs {α : Type} {c : Prop} [Decidable c] {x y : Rd α} (hx : Errs x) (hy : Errs y) : Errs (if c then x else y) := by
  by_cases h : c
  · rw [if_pos h]; exact hx
  · rw [if_neg h]; exact hy
theorem takeG_errs : ∀ (g n : Nat) (l : List UInt8) (e : Nat), N.takeG g n l = .bad e → 0 < e
  | g, n, [], e, h => by rw [N.takeG_nil] at h; cases h; omega
  | 0, n, c :: r, e, h => by rw [N.takeG_out] at h; cases h; omega
  | g + 1, n, c :: r, e, h => by
    rw [N.takeG] at h
    split at h
    · exact takeG_errs g _ r e h
    · split at h
      · cases h; omega
      · split at h <;> cases h <;> omega
theorem num_errs (l : List UInt8) : Errs (N.takeL l) := fun e h => takeG_errs 6 0 l e h
theorem txt_errs (l : List UInt8) (m : Int) : Errs (N.takeT l m) := by
  intro e h
  rcases N.takeL_cases l with ⟨c, hc⟩ | ⟨n, r, hc⟩
  · rw [N.takeT_bad m hc] at h
    cases h
    exact num_errs l _ hc
  · by_cases h1 : m < n
    · rw [N.takeT_long hc h1] at h; cases h; omega
    · by_cases h2 : r.length < n
      · rw [N.takeT_short hc h1 h2] at h; cases h; omega
      · rw [N.takeT_ok hc h1 h2] at h; cases h
theorem takeN_errs {α : Type} {take : List UInt8 → Rd α} (h : ∀ l, Errs (take l)) : ∀ (n : Nat) (l : List UInt8), Errs (takeN take n l)
  | 0, _ => ok_errs _ _
  | n + 1, l => bind_errs (h l) fun _ r => bind_errs (takeN_errs h n r) fun _ _ => ok_errs _ _
end Go.Proofs.YtmfhipjceeijmaaGreatDoor.K
namespace Go.Proofs.YtmfhipjceeijmaaGreatDoor.E
open K
theorem parts_errs (l : List UInt8) : Errs (parts l) := bind_errs (txt_errs _ _) fun _ _ => bind_errs (txt_errs _ _) fun _ _ => ok_errs _ _
theorem ev_errs (l : List UInt8) : Errs (takeEv l) := bind_errs (parts_errs _) fun _ _ => if_errs (ok_errs _ _) (bad_errs (by omega))
theorem bat_errs (l : List UInt8) : Errs (takeBat l) :=
  bind_errs (txt_errs _ _) fun _ _ => bind_errs (num_errs _) fun _ _ => bind_errs (num_errs _) fun _ _ => bind_errs (num_errs _) fun _ _ => bind_errs (num_errs _) fun _ _ =>
    if_errs (bad_errs (by omega)) (bind_errs (takeN_errs parts_errs _ _) fun _ _ => if_errs (ok_errs _ _) (bad_errs (by omega)))
end Go.Proofs.YtmfhipjceeijmaaGreatDoor.E
namespace Go.Proofs.YtmfhipjceeijmaaGreatDoor
def E.sameB (a b : E.Bat) : Bool := decide (a.stream = b.stream ∧ a.expect = b.expect ∧ a.session = b.session ∧ a.seq = b.seq ∧ a.events = b.events)
theorem E.sameB_iff {a b : E.Bat} : E.sameB a b = true ↔ a = b := by
  unfold E.sameB
  rw [decide_eq_true_eq]
  constructor
  · rintro ⟨h1, h2, h3, h4, h5⟩
    cases a; cases b
    simp_all
  · rintro rfl
    exact ⟨rfl, rfl, rfl, rfl, rfl⟩
theorem E.sameB_self (a : E.Bat) : E.sameB a a = true := E.sameB_iff.2 rfl
theorem E.sameB_ne {a b : E.Bat} (h : ¬ (a.stream = b.stream ∧ a.expect = b.expect ∧ a.session = b.session ∧ a.seq = b.seq ∧ a.events = b.events)) : E.sameB a b = false := by
  unfold E.sameB; exact decide_eq_false h
theorem ev_step {xs ys : List E.Ev} {k : Nat} (hx : k < xs.length) (hy : k < ys.length) (ht : xs.take k = ys.take k) (he : xs[k] = ys[k]) : xs.take (k + 1) = ys.take (k + 1) := by
  rw [List.take_succ_eq_append_getElem hx, List.take_succ_eq_append_getElem hy, ht, he]
end Go.Proofs.YtmfhipjceeijmaaGreatDoor

/-
  Entries of the document's chapter 6, over lists of bytes: what is right, their bytes, rows of them, what follows, marks, and where two logs part. No program in this text.
-/
namespace Go.Proofs.YtmfhipjceeijmaaGreatDoor.R
open K

structure En where
  pos : Int
  epoch : Int
  b : E.Bat
def large : Int := 274877906944
def right (e : En) : Bool := decide (1 ≤ e.pos) && (decide (e.pos ≤ large) && (decide (1 ≤ e.epoch) && (decide (e.epoch ≤ large) && decide (E.fits e.b = 0))))
theorem right_iff {e : En} : right e = true ↔ 1 ≤ e.pos ∧ e.pos ≤ large ∧ 1 ≤ e.epoch ∧ e.epoch ≤ large ∧ E.fits e.b = 0 := by
  unfold right; simp only [Bool.and_eq_true, decide_eq_true_eq]
def bytes (e : En) : List UInt8 := N.putL (N.held e.pos) ++ (N.putL (N.held e.epoch) ++ E.bytes e.b)
def putEn (e : En) : List UInt8 := if right e = true then bytes e else []
theorem putEn_ok {e : En} (h : right e = true) : putEn e = bytes e := by unfold putEn; rw [if_pos h]
theorem putEn_bad {e : En} (h : right e = false) : putEn e = [] := by unfold putEn; rw [if_neg (by rw [h]; decide)]
theorem bytes_pos (e : En) : 0 < (bytes e).length := by
  have := N.putL_pos (N.held e.pos)
  unfold bytes
  rw [List.length_append]
  omega
theorem bytes_len {e : En} (h : right e = true) : (bytes e).length ≤ 20012 := by
  have h1 := N.putL_len6 (N.held_le e.pos)
  have h2 := N.putL_len6 (N.held_le e.epoch)
  have h3 := E.bytes_len (right_iff.1 h).2.2.2.2
  unfold bytes
  simp only [List.length_append]
  omega
theorem putEn_nil {e : En} : putEn e = [] ↔ right e = false := by
  cases h : right e
  · simp [putEn_bad h]
  · rw [putEn_ok h]
    have := bytes_pos e
    constructor
    · intro h2; rw [h2] at this; simp at this
    · intro h2; cases h2
def takeEn (l : List UInt8) : Rd En := bind (N.takeL l) fun p r1 => bind (N.takeL r1) fun q r2 => bind (E.takeBat r2) fun b r3 => if right ⟨p, q, b⟩ = true then Sum.inl (⟨p, q, b⟩, r3) else Sum.inr 2
def enOk (e : En) : Prop := intOk e.pos ∧ intOk e.epoch ∧ E.batOk e.b ∧ decide (E.fits e.b = 0) = true
abbrev Tup : Type := Int × Int × E.Bat
theorem enC : Codec (fun e => enOk e ∧ right e = true) bytes takeEn := by
  have C0 := ints.pair (ints.pair E.batC)
  have C1 := (C0.map (fun t : Tup => (⟨t.1, t.2.1, t.2.2⟩ : En)) (fun e => (e.pos, e.epoch, e.b)) (ok' := enOk) (fun a h => ⟨rfl, h⟩) (fun b h => ⟨rfl, h⟩)).only right 2
  have e : takeEn = fun l => bind (bind (bind (bind (N.takeL l) fun n r => Sum.inl ((n : Int), r)) fun a r => bind (bind (bind (N.takeL r) fun n r => Sum.inl ((n : Int), r)) fun a r => bind (E.takeBat r) fun b q => Sum.inl ((a, b), q)) fun b q => Sum.inl ((a, b), q)) fun a r => Sum.inl ((⟨a.1, a.2.1, a.2.2⟩ : En), r)) fun a r => if right a = true then Sum.inl (a, r) else Sum.inr 2 := by
    funext l
    simp only [E.bind_assoc, E.bind_pure]
    rfl
  rw [e]
  exact C1
theorem en_ok {e : En} (h : right e = true) : enOk e ∧ right e = true := by
  obtain ⟨h1, h2, h3, h4, h5⟩ := right_iff.1 h
  have hl : large = 274877906944 := rfl
  refine ⟨⟨?_, ?_, E.bat_ok h5⟩, h⟩
  · unfold intOk; omega
  · unfold intOk; omega
theorem take_put {e : En} (h : right e = true) (r : List UInt8) : takeEn (bytes e ++ r) = Sum.inl (e, r) := enC.back e r (en_ok h)
theorem take_inv {l r : List UInt8} {e : En} (h : takeEn l = Sum.inl (e, r)) : l = bytes e ++ r ∧ right e = true := by
  obtain ⟨h1, h2⟩ := enC.inv l e r h
  exact ⟨h1, h2.2⟩
theorem take_less {e : En} (h : right e = true) : takeEn ((bytes e).take ((bytes e).length - 1)) = Sum.inr 3 := enC.last (en_ok h) (bytes_pos e)
theorem en_errs (l : List UInt8) : Errs (takeEn l) := bind_errs (num_errs _) fun _ _ => bind_errs (num_errs _) fun _ _ => bind_errs (E.bat_errs _) fun _ _ => if_errs (ok_errs _ _) (bad_errs (by omega))

/-- Rows. -/
def rowB (l : List En) : List UInt8 := N.putL l.length ++ l.flatMap bytes
def putRow (l : List En) : List UInt8 := if l.all right = true then rowB l else []
theorem putRow_ok {l : List En} (h : l.all right = true) : putRow l = rowB l := by unfold putRow; rw [if_pos h]
theorem putRow_bad {l : List En} (h : l.all right = false) : putRow l = [] := by unfold putRow; rw [if_neg (by rw [h]; decide)]
def takeRow (l : List UInt8) (most : Int) : Rd (List En) := bind (N.takeL l) fun n r => if most < n then Sum.inr 4 else takeN takeEn n r
theorem row_back {xs : List En} (h : xs.all right = true) (hl : xs.length ≤ 1000000) (r : List UInt8) (most : Int) (hm : ¬ most < xs.length) : takeRow (rowB xs ++ r) most = Sum.inl (xs, r) := by
  unfold takeRow rowB
  rw [List.append_assoc, bind_ok _ (N.take_put (by omega) _), if_neg hm]
  exact takeN_back enC xs r fun x hx => en_ok (List.all_eq_true.1 h x hx)
theorem row_long {xs : List En} (hl : xs.length ≤ 1000000) (r : List UInt8) (most : Int) (hm : most < xs.length) : takeRow (rowB xs ++ r) most = Sum.inr 4 := by
  unfold takeRow rowB
  rw [List.append_assoc, bind_ok _ (N.take_put (by omega) _), if_pos hm]
theorem row_errs (l : List UInt8) (most : Int) : Errs (takeRow l most) := bind_errs (num_errs _) fun _ _ => if_errs (bad_errs (by omega)) (takeN_errs en_errs _ _)
theorem row_len : ∀ {xs : List En}, xs.all right = true → (xs.flatMap bytes).length ≤ 20012 * xs.length
  | [], _ => by simp
  | x :: xs, h => by
    rw [List.all_cons, Bool.and_eq_true] at h
    have h1 := bytes_len h.1
    have h2 := row_len h.2
    rw [List.flatMap_cons, List.length_append, List.length_cons]
    omega

/-- Do entries go on from a place? -/
def follows : List En → Int → Int → Bool
  | [], _, _ => true
  | e :: l, p, q => right e && (decide (e.pos = p + 1) && (decide (q ≤ e.epoch) && follows l e.pos e.epoch))
theorem follows_cons {e : En} {l : List En} {p q : Int} : follows (e :: l) p q = true ↔ right e = true ∧ e.pos = p + 1 ∧ q ≤ e.epoch ∧ follows l e.pos e.epoch = true := by
  rw [follows]; simp only [Bool.and_eq_true, decide_eq_true_eq]
def lastP (l : List En) (p : Int) : Int := (l.getLast?.map (·.pos)).getD p
def lastQ (l : List En) (q : Int) : Int := (l.getLast?.map (·.epoch)).getD q
theorem lastP_cons (e : En) (l : List En) (p : Int) : lastP (e :: l) p = lastP l e.pos := by
  unfold lastP
  rw [List.getLast?_cons]
  cases l.getLast? <;> rfl
theorem lastQ_cons (e : En) (l : List En) (q : Int) : lastQ (e :: l) q = lastQ l e.epoch := by
  unfold lastQ
  rw [List.getLast?_cons]
  cases l.getLast? <;> rfl
theorem follows_append : ∀ (xs ys : List En) (p q : Int), follows (xs ++ ys) p q = true ↔ follows xs p q = true ∧ follows ys (lastP xs p) (lastQ xs q) = true
  | [], ys, p, q => by simp [follows, lastP, lastQ]
  | x :: xs, ys, p, q => by
    rw [List.cons_append, follows_cons, follows_cons, follows_append xs ys, lastP_cons, lastQ_cons]
    constructor
    · rintro ⟨h1, h2, h3, h4, h5⟩; exact ⟨⟨h1, h2, h3, h4⟩, h5⟩
    · rintro ⟨⟨h1, h2, h3, h4⟩, h5⟩; exact ⟨h1, h2, h3, h4, h5⟩
theorem follows_pos : ∀ {l : List En} {p q : Int}, follows l p q = true → ∀ i (h : i < l.length), l[i].pos = p + 1 + i
  | e :: l, p, q, hf, 0, _ => by
    have := (follows_cons.1 hf).2.1
    show e.pos = _
    omega
  | e :: l, p, q, hf, i + 1, h => by
    obtain ⟨_, h2, _, h4⟩ := follows_cons.1 hf
    have h6 : i < l.length := by simpa using h
    have := follows_pos h4 i h6
    show l[i].pos = _
    omega
theorem follows_right {l : List En} {p q : Int} (h : follows l p q = true) : ∀ e ∈ l, right e = true := by
  induction l generalizing p q with
  | nil => simp
  | cons a l ih =>
    obtain ⟨h1, _, _, h4⟩ := follows_cons.1 h
    intro e he
    rcases List.mem_cons.1 he with rfl | he
    · exact h1
    · exact ih h4 e he

/-- The marks of entries. -/
abbrev Mk : Type := Int × Int
def marksF : Option Int → List En → List Mk
  | _, [] => []
  | o, e :: l => if o = some e.epoch then marksF (some e.epoch) l else (e.epoch, e.pos) :: marksF (some e.epoch) l
def marks (l : List En) : List Mk := marksF none l
def epochAt (ms : List Mk) (p : Int) : Int := ms.foldl (fun n m => if m.2 ≤ p then m.1 else n) 0
/-- Entries whose places follow one another, from c on. -/
def Runs : List En → Int → Prop
  | [], _ => True
  | e :: l, c => e.pos = c ∧ Runs l (c + 1)
theorem runs_of_follows : ∀ {l : List En} {p q : Int}, follows l p q = true → Runs l (p + 1)
  | [], _, _, _ => trivial
  | e :: l, p, q, h => by
    obtain ⟨_, h2, _, h4⟩ := follows_cons.1 h
    exact ⟨h2, by have := runs_of_follows h4; rwa [h2] at this⟩
theorem fold_low : ∀ (o : Option Int) (l : List En) (c p n : Int), Runs l c → p < c → (marksF o l).foldl (fun n m => if m.2 ≤ p then m.1 else n) n = n
  | _, [], _, _, _, _, _ => rfl
  | o, e :: l, c, p, n, h, hp => by
    rw [marksF]
    split
    · exact fold_low _ l (c + 1) p n h.2 (by omega)
    · rw [List.foldl_cons, if_neg (by have := h.1; show ¬ e.pos ≤ p; omega)]
      exact fold_low _ l (c + 1) p n h.2 (by omega)
theorem fold_at : ∀ (o : Option Int) (l : List En) (c n : Int) (i : Nat) (hi : i < l.length), Runs l c → (∀ x, o = some x → n = x) → (marksF o l).foldl (fun n m => if m.2 ≤ c + i then m.1 else n) n = l[i].epoch
  | o, e :: l, c, n, i, hi, h, ho => by
    rw [marksF]
    have key : ∀ n' : Int, n' = e.epoch → (marksF (some e.epoch) l).foldl (fun n m => if m.2 ≤ c + i then m.1 else n) n' = (e :: l)[i].epoch := by
      intro n' hn
      cases i with
      | zero =>
        rw [fold_low _ l (c + 1) (c + (0 : Nat)) n' h.2 (by omega)]
        exact hn
      | succ i =>
        have := fold_at (some e.epoch) l (c + 1) n' i (by simpa using hi) h.2 (fun x hx => by cases hx; exact hn)
        rw [show c + 1 + (i : Int) = c + ((i + 1 : Nat) : Int) by omega] at this
        exact this
    split
    · rename_i he
      exact key n (ho _ he)
    · rw [List.foldl_cons, if_pos (by have := h.1; show e.pos ≤ c + i; omega)]
      exact key _ rfl
/-- Marks tell each place's epoch. -/
theorem epoch_at {l : List En} {c : Int} (h : Runs l c) (i : Nat) (hi : i < l.length) : epochAt (marks l) (c + i) = l[i].epoch := fold_at none l c 0 i hi h (fun x hx => by cases hx)

/-- Where two logs part. -/
def agree (a b : List Mk) (p : Int) : Bool := decide (epochAt a p = epochAt b p) && decide (epochAt a p ≠ 0)
def forkF (a b : List Mk) : Nat → Nat → Nat
  | 0, p => p
  | k + 1, p => if agree a b ((p : Int) + 1) = true then forkF a b k (p + 1) else p
def fork (a : List Mk) (la : Int) (b : List Mk) (lb : Int) : Nat := forkF a b (min la lb).toNat 0
theorem forkF_is {a b : List Mk} : ∀ (k p m : Nat), p ≤ m → m ≤ p + k → (∀ q, p ≤ q → q < m → agree a b ((q : Int) + 1) = true) → (m < p + k → agree a b ((m : Int) + 1) = false) → forkF a b k p = m
  | 0, p, m, h1, h2, _, _ => by
    rw [forkF]; omega
  | k + 1, p, m, h1, h2, h3, h4 => by
    rw [forkF]
    by_cases hpm : p = m
    · subst hpm
      rw [if_neg (by rw [h4 (by omega)]; decide)]
    · rw [if_pos (h3 p (Nat.le_refl _) (by omega))]
      exact forkF_is k (p + 1) m (by omega) (by omega) (fun q hq hq2 => h3 q (by omega) hq2) (fun h => h4 (by omega))
theorem fork_is {a b : List Mk} {la lb : Int} {m : Nat} (hm : (m : Int) ≤ max 0 (min la lb)) (h3 : ∀ q : Nat, q < m → agree a b ((q : Int) + 1) = true) (h4 : (m : Int) < min la lb → agree a b ((m : Int) + 1) = false) : fork a la b lb = m :=
  forkF_is _ 0 m (Nat.zero_le _) (by omega) (fun q _ hq => h3 q hq) (fun h => h4 (by omega))
theorem agree_comm {a b : List Mk} {p : Int} : agree a b p = agree b a p := by
  unfold agree
  by_cases h : epochAt a p = epochAt b p
  · rw [h]
  · rw [decide_eq_false h, decide_eq_false (p := epochAt b p = epochAt a p) (fun h2 => h h2.symm)]; rfl
theorem forkF_comm (a b : List Mk) : ∀ k p, forkF a b k p = forkF b a k p
  | 0, _ => rfl
  | k + 1, p => by rw [forkF, forkF, agree_comm, forkF_comm a b k]
theorem fork_comm (a b : List Mk) (la lb : Int) : fork a la b lb = fork b lb a la := by
  unfold fork; rw [forkF_comm, Int.min_comm]
/-- Two logs that begin at 1, of which the first k entries have the same epochs, and the next ones have not: they part there. -/
theorem fork_logs {a b : List En} {k : Nat} (ha : Runs a 1) (hb : Runs b 1) (hka : k ≤ a.length) (hkb : k ≤ b.length) (hs : ∀ i (h1 : i < a.length) (h2 : i < b.length), i < k → a[i].epoch = b[i].epoch ∧ a[i].epoch ≠ 0)
    (hd : ∀ (h1 : k < a.length) (h2 : k < b.length), a[k].epoch ≠ b[k].epoch) : fork (marks a) a.length (marks b) b.length = k := by
  have ea : ∀ i (h : i < a.length), epochAt (marks a) ((i : Int) + 1) = a[i].epoch := fun i h => by rw [← epoch_at ha i h, Int.add_comm]
  have eb : ∀ i (h : i < b.length), epochAt (marks b) ((i : Int) + 1) = b[i].epoch := fun i h => by rw [← epoch_at hb i h, Int.add_comm]
  refine fork_is (by omega) (fun q hq => ?_) (fun hm => ?_)
  · obtain ⟨h1, h2⟩ := hs q (by omega) (by omega) hq
    unfold agree
    rw [ea q (by omega), eb q (by omega), decide_eq_true h1, decide_eq_true h2]
    rfl
  · have h1 : k < a.length := by omega
    have h2 : k < b.length := by omega
    unfold agree
    rw [ea k h1, eb k h2, decide_eq_false (hd h1 h2)]
    rfl
theorem fork_self {a : List En} (ha : Runs a 1) (hp : ∀ e ∈ a, e.epoch ≠ 0) : fork (marks a) a.length (marks a) a.length = a.length :=
  fork_logs ha ha (Nat.le_refl _) (Nat.le_refl _) (fun _ h1 _ _ => ⟨rfl, hp _ (List.getElem_mem h1)⟩) (fun h1 _ => absurd h1 (Nat.lt_irrefl _))

/-- Entries that follow one another do so in two parts; with one left out they do not. -/
theorem cuts {l : List En} {k : Nat} (hl : 2 ≤ l.length) (h1 : 1 ≤ k) (h2 : k < l.length) {p : Int} (h : follows l p 0 = true) :
    follows (l.take k) p 0 = true ∧ follows (l.drop k) l[k - 1].pos l[k - 1].epoch = true ∧ follows (l.take (k - 1) ++ l.drop k) p 0 = false ∧ follows l (p + 1) 0 = false := by
  have hl2 : (l.take k).getLast? = some l[k - 1] := by
    rw [List.getLast?_eq_getElem?, List.length_take, Nat.min_eq_left (by omega), List.getElem?_take, if_pos (by omega), List.getElem?_eq_getElem (by omega)]
  have hp := follows_pos h
  have hs := h
  rw [← List.take_append_drop k l, follows_append] at hs
  have e1 : lastP (l.take k) p = l[k - 1].pos := by unfold lastP; rw [hl2]; rfl
  have e2 : lastQ (l.take k) 0 = l[k - 1].epoch := by unfold lastQ; rw [hl2]; rfl
  rw [e1, e2] at hs
  refine ⟨hs.1, hs.2, ?_, ?_⟩
  · cases hc : follows (l.take (k - 1) ++ l.drop k) p 0
    · rfl
    · have h3 := follows_pos hc (k - 1) (by rw [List.length_append, List.length_take, List.length_drop]; omega)
      have h4 : (l.take (k - 1) ++ l.drop k)[k - 1]'(by rw [List.length_append, List.length_take, List.length_drop]; omega) = l[k] := by
        rw [List.getElem_append_right (by rw [List.length_take]; omega)]
        simp [List.length_take, Nat.min_eq_left (show k - 1 ≤ l.length by omega)]
      rw [h4, hp k h2] at h3
      omega
  · cases hc : follows l (p + 1) 0
    · rfl
    · have h3 := follows_pos hc 0 (by omega)
      rw [hp 0 (by omega)] at h3
      omega
end Go.Proofs.YtmfhipjceeijmaaGreatDoor.R

/-
  Segments of the document's chapter 9, over lists of bytes: a segment's bytes, what is read of bytes, and what follows. No program in this text.
-/
namespace Go.Proofs.YtmfhipjceeijmaaGreatDoor.G
open R (En)

abbrev Tx := List UInt8
theorem held6 (z : Int) : (N.putL (N.held z)).length ≤ 6 := N.putL_len6 (N.held_le z)
theorem txt_small {l : Tx} {k : Nat} (h : l.length ≤ k) (hk : k ≤ 1000000) : (N.putT l).length ≤ k + 6 := by
  have := N.putT_len (l := l) (by omega)
  omega
theorem ev_small {e : E.Ev} (h : E.right e = true) : (E.putE e).length ≤ 340 := by
  obtain ⟨h1, h2, _⟩ := E.right_bd h
  have a := txt_small h1 (by omega)
  have b := txt_small h2 (by omega)
  unfold E.putE
  rw [List.length_append]
  omega
theorem evs_small : ∀ {l : List E.Ev}, l.all E.right = true → (l.flatMap E.putE).length ≤ 340 * l.length
  | [], _ => by simp
  | e :: l, h => by
    rw [List.all_cons, Bool.and_eq_true] at h
    have h1 := ev_small h.1
    have h2 := evs_small h.2
    rw [List.flatMap_cons, List.length_append, List.length_cons]
    omega
theorem bat_small {b : E.Bat} (h : E.fits b = 0) : (E.bytes b).length ≤ 2900 := by
  obtain ⟨hh, h8, hr⟩ := E.fits_inv h
  have h1 := txt_small (nameL_len hh.1).2 (by omega)
  have h2 : (N.putL (N.zigN b.expect)).length ≤ 6 := N.putL_len6 (N.zigN_le _)
  have h3 := held6 b.session
  have h4 := held6 b.seq
  have h5 : (N.putL b.events.length).length ≤ 6 := N.putL_len6 (by omega)
  have h6 := evs_small hr
  unfold E.bytes
  simp only [List.length_append]
  omega
theorem en_small {e : En} (h : R.right e = true) : (R.bytes e).length ≤ 2912 := by
  have h0 := (R.right_iff.1 h).2.2.2.2
  have h1 := held6 e.pos
  have h2 := held6 e.epoch
  have h3 := bat_small h0
  unfold R.bytes
  simp only [List.length_append]
  omega

/-- An entry's payload, the first payload. -/
def pay (e : En) : Tx := 101 :: R.bytes e
def headP (n : Nat) : Tx := 115 :: N.putL n
def far : Nat := 274877906944
theorem pay_good {e : En} (h : R.right e = true) : F.good (pay e) := by
  have := en_small h
  unfold F.good pay
  rw [List.length_cons]
  omega
theorem head_good {n : Nat} (h : n ≤ far) : F.good (headP n) := by
  have := N.putL_len6 (m := n) (by unfold far at h; omega)
  unfold F.good headP
  rw [List.length_cons]
  omega
def rows (n : Nat) (es : List En) : List Tx := headP n :: es.map pay
def segB (n : Nat) (es : List En) : Tx := F.frames (rows n es)
theorem segB_eq (n : Nat) (es : List En) : segB n es = F.frame (headP n) ++ F.frames (es.map pay) := by unfold segB rows; rw [F.frames_cons]
theorem segB_append (n : Nat) (a b : List En) : segB n (a ++ b) = segB n a ++ F.frames (b.map pay) := by rw [segB_eq, segB_eq, List.map_append, F.frames_append, List.append_assoc]
theorem rows_good {n : Nat} {es : List En} (hn : n ≤ far) (h : ∀ e ∈ es, R.right e = true) : ∀ p ∈ rows n es, F.good p := fun p hp => by
  unfold rows at hp
  rcases List.mem_cons.1 hp with rfl | hp
  · exact head_good hn
  · obtain ⟨e, he, rfl⟩ := List.mem_map.1 hp
    exact pay_good (h e he)

/-- What is read of a payload: a first place, an entry. -/
def headOf (p : Tx) : Option Nat :=
  if p.head? = some 115 then (match N.takeL p.tail with | Sum.inl (n, r) => if r = [] ∧ 1 ≤ n ∧ n ≤ far then some n else none | Sum.inr _ => none) else none
def entOf (p : Tx) : Option En :=
  if p.head? = some 101 then (match R.takeEn p.tail with | Sum.inl (e, r) => if r = [] then some e else none | Sum.inr _ => none) else none
theorem headOf_head {n : Nat} (h1 : 1 ≤ n) (h2 : n ≤ far) : headOf (headP n) = some n := by
  unfold headOf headP
  have h3 := N.take_put (n := n) (by unfold far at h2; omega) []
  rw [List.append_nil] at h3
  simp [h3, h1, h2]
theorem headOf_inv {p : Tx} {n : Nat} (h : headOf p = some n) : p = headP n ∧ 1 ≤ n ∧ n ≤ far := by
  unfold headOf at h
  split at h
  · rename_i hp
    split at h
    · rename_i m r hm
      split at h
      · rename_i hc
        cases h
        obtain ⟨rfl, h1, h2⟩ := hc
        have := (N.take_inv hm).1
        rw [List.append_nil] at this
        refine ⟨?_, h1, h2⟩
        cases p with
        | nil => cases hp
        | cons c t =>
          cases hp
          unfold headP
          rw [← this]; rfl
      · cases h
    · cases h
  · cases h
theorem entOf_pay {e : En} (h : R.right e = true) : entOf (pay e) = some e := by
  unfold entOf pay
  have h3 := R.take_put h []
  rw [List.append_nil] at h3
  simp [h3]
theorem entOf_inv {p : Tx} {e : En} (h : entOf p = some e) : p = pay e ∧ R.right e = true := by
  unfold entOf at h
  split at h
  · rename_i hp
    split at h
    · rename_i e2 r hm
      split at h
      · rename_i hc
        cases h
        subst hc
        obtain ⟨h1, h2⟩ := R.take_inv hm
        rw [List.append_nil] at h1
        refine ⟨?_, h2⟩
        cases p with
        | nil => cases hp
        | cons c t =>
          cases hp
          unfold pay
          rw [← h1]; rfl
      · cases h
    · cases h
  · cases h
/-- The entries of payloads, as long as they go on. -/
def goOn : List Tx → Int → Int → List En
  | [], _, _ => []
  | q :: qs, p, c => match entOf q with
    | some e => if e.pos = p + 1 ∧ c ≤ e.epoch then e :: goOn qs e.pos e.epoch else []
    | none => []
theorem goOn_follows : ∀ (qs : List Tx) (p c : Int), R.follows (goOn qs p c) p c = true
  | [], _, _ => rfl
  | q :: qs, p, c => by
    unfold goOn
    cases h : entOf q with
    | none => rfl
    | some e =>
      dsimp only
      split
      · rename_i hc
        exact R.follows_cons.2 ⟨(entOf_inv h).2, hc.1, hc.2, goOn_follows qs e.pos e.epoch⟩
      · rfl
theorem goOn_pay : ∀ {es : List En} {p c : Int} (qs : List Tx), R.follows es p c = true → goOn (es.map pay ++ qs) p c = es ++ goOn qs (R.lastP es p) (R.lastQ es c)
  | [], p, c, qs, _ => by simp [R.lastP, R.lastQ]
  | e :: es, p, c, qs, h => by
    obtain ⟨h1, h2, h3, h4⟩ := R.follows_cons.1 h
    rw [List.map_cons, List.cons_append, goOn, entOf_pay h1]
    dsimp only
    rw [if_pos ⟨h2, h3⟩, goOn_pay qs h4, R.lastP_cons, R.lastQ_cons, List.cons_append]
theorem goOn_part : ∀ (qs : List Tx) (p c : Int), ∃ r, qs = (goOn qs p c).map pay ++ r
  | [], _, _ => ⟨[], rfl⟩
  | q :: qs, p, c => by
    unfold goOn
    cases h : entOf q with
    | none => exact ⟨q :: qs, rfl⟩
    | some e =>
      dsimp only
      split
      · obtain ⟨r, hr⟩ := goOn_part qs e.pos e.epoch
        refine ⟨r, ?_⟩
        rw [List.map_cons, List.cons_append, ← (entOf_inv h).1, ← hr]
      · exact ⟨q :: qs, rfl⟩
/-- What bytes have: a first place, entries, and whether anything is left behind them. -/
def loadL (s : Tx) : Option (Nat × List En × Bool) :=
  match (F.scan s).1 with
  | [] => none
  | q :: qs => match headOf q with
    | none => none
    | some n => some (n, goOn qs ((n : Int) - 1) 0, decide (segB n (goOn qs ((n : Int) - 1) 0) ≠ s))
theorem scan_inv : ∀ (k : Nat) (s : Tx), s.length ≤ k → ∃ r, s = F.frames (F.scan s).1 ++ r
  | 0, s, h => by
    have : s = [] := List.eq_nil_of_length_eq_zero (by omega)
    subst this
    exact ⟨[], by rw [F.scan_bad (F.take_few (by simp))]; rfl⟩
  | k + 1, s, h => by
    rcases F.take_cases s with ⟨e, he, _⟩ | ⟨p, r, he⟩
    · exact ⟨s, by rw [F.scan_bad he]; rfl⟩
    · have hi := F.take_inv he
      have hl : s.length = p.length + 8 + r.length := by rw [hi.1, List.length_append, F.frame_len]
      obtain ⟨t, ht⟩ := scan_inv k r (by omega)
      refine ⟨t, ?_⟩
      rw [F.scan_ok he]
      show s = F.frames (p :: (F.scan r).1) ++ t
      rw [F.frames_cons, List.append_assoc, ← ht]
      exact hi.1
/-- What is read is what stands there. -/
theorem load_is {s : Tx} {n : Nat} {es : List En} {t : Bool} (h : loadL s = some (n, es, t)) : 1 ≤ n ∧ n ≤ far ∧ R.follows es ((n : Int) - 1) 0 = true ∧ (∃ r, s = segB n es ++ r) ∧ t = decide (segB n es ≠ s) := by
  unfold loadL at h
  split at h
  · cases h
  · rename_i q qs hsc
    split at h
    · cases h
    · rename_i hm
      cases h
      obtain ⟨hq, h1, h2⟩ := headOf_inv hm
      refine ⟨h1, h2, goOn_follows _ _ _, ?_, rfl⟩
      obtain ⟨r, hr⟩ := scan_inv s.length s (Nat.le_refl _)
      rw [hsc] at hr
      obtain ⟨r2, hr2⟩ := goOn_part qs ((n : Int) - 1) 0
      refine ⟨F.frames r2 ++ r, ?_⟩
      rw [segB_eq, List.append_assoc, ← List.append_assoc (F.frames _), ← F.frames_append, ← hr2, ← hq, ← List.append_assoc, ← F.frames_cons]
      exact hr
/-- A segment's bytes, and what is behind them that is no more of it. -/
theorem load_rows {n : Nat} {es : List En} {qs : List Tx} {s : Tx} (h1 : 1 ≤ n) (h2 : n ≤ far) (hf : R.follows es ((n : Int) - 1) 0 = true) (hs : (F.scan s).1 = headP n :: (es.map pay ++ qs)) (hg : goOn qs (R.lastP es ((n : Int) - 1)) (R.lastQ es 0) = []) : loadL s = some (n, es, decide (segB n es ≠ s)) := by
  unfold loadL
  rw [hs]
  dsimp only
  rw [headOf_head h1 h2]
  dsimp only
  rw [goOn_pay qs hf, hg, List.append_nil]
theorem load_seg {n : Nat} {es : List En} (h1 : 1 ≤ n) (h2 : n ≤ far) (hf : R.follows es ((n : Int) - 1) 0 = true) : loadL (segB n es) = some (n, es, false) := by
  have h3 : (F.scan (segB n es)).1 = headP n :: (es.map pay ++ []) := by
    unfold segB
    rw [F.scan_row_all (rows_good h2 (R.follows_right hf)), List.append_nil]
    rfl
  rw [load_rows h1 h2 hf h3 rfl]
  simp
/-- How many frames of a row are whole in what a cut leaves. -/
theorem whole : ∀ (l : List Tx) (cut : Nat), ∃ k, k ≤ l.length ∧ (F.frames (l.take k)).length ≤ cut ∧ (k = l.length ∨ ∃ hk2 : k < l.length, cut < (F.frames (l.take k)).length + (l[k].length + 8))
  | [], cut => ⟨0, Nat.le_refl _, Nat.zero_le _, .inl rfl⟩
  | q :: l, cut => by
    by_cases h : cut < q.length + 8
    · exact ⟨0, Nat.zero_le _, Nat.zero_le _, .inr ⟨by simp, by simp [F.frames_nil]; exact h⟩⟩
    · obtain ⟨k, h1, h2, h3⟩ := whole l (cut - (q.length + 8))
      refine ⟨k + 1, by simpa using h1, by rw [List.take_succ_cons, F.frames_cons, List.length_append, F.frame_len]; omega, ?_⟩
      rcases h3 with rfl | ⟨h4, h5⟩
      · exact .inl (by simp)
      · refine .inr ⟨by simpa using h4, ?_⟩
        rw [List.take_succ_cons, F.frames_cons, List.length_append, F.frame_len, List.getElem_cons_succ]
        omega
theorem follows_take {es : List En} {p c : Int} (h : R.follows es p c = true) (k : Nat) : R.follows (es.take k) p c = true := by
  have := (R.follows_append (es.take k) (es.drop k) p c).1 (by rw [List.take_append_drop]; exact h)
  exact this.1
/-- Of a segment that is cut, behind some of its entries, a beginning is read. -/
theorem load_cut {n : Nat} {es : List En} {m cut : Nat} (h1 : 1 ≤ n) (h2 : n ≤ far) (hf : R.follows es ((n : Int) - 1) 0 = true) (hm : m ≤ es.length) (hc : (segB n (es.take m)).length ≤ cut) :
    ∃ k, m ≤ k ∧ k ≤ es.length ∧ loadL ((segB n es).take cut) = some (n, es.take k, decide (segB n (es.take k) ≠ (segB n es).take cut)) := by
  have hgood := rows_good h2 (R.follows_right hf)
  obtain ⟨k, hk, hle, hnx⟩ := whole (rows n es) cut
  have hsc := F.scan_cut hgood hk hle hnx
  have hlen : (rows n es).length = es.length + 1 := by simp [rows]
  have htk : ∀ j, (rows n es).take (j + 1) = rows n (es.take j) := fun j => by simp [rows, List.map_take]
  have hmk : m + 1 ≤ k := by
    rcases hnx with rfl | ⟨hk2, hnx⟩
    · omega
    · refine Nat.lt_of_not_le fun hkm => ?_
      have h5 : (F.frames ((rows n es).take (k + 1))).length ≤ (F.frames ((rows n es).take (m + 1))).length := by
        have : (rows n es).take (k + 1) = ((rows n es).take (m + 1)).take (k + 1) := by rw [List.take_take]; congr 1; omega
        rw [this]
        conv => rhs; rw [← List.take_append_drop (k + 1) ((rows n es).take (m + 1)), F.frames_append, List.length_append]
        omega
      rw [F.frames_step hk2, List.length_append, F.frame_len, htk] at h5
      unfold segB at hc
      omega
  obtain ⟨j, rfl⟩ : ∃ j, k = j + 1 := ⟨k - 1, by omega⟩
  refine ⟨j, by omega, by omega, ?_⟩
  rw [htk] at hsc
  have hs2 : (F.scan ((segB n es).take cut)).1 = headP n :: ((es.take j).map pay ++ []) := by
    unfold segB
    rw [hsc, List.append_nil]
    rfl
  exact load_rows h1 h2 (follows_take hf j) hs2 rfl
end Go.Proofs.YtmfhipjceeijmaaGreatDoor.G

/-
  More of chapter 6 over lists: marks of which none is idle, places that are asked in order, where epochs turn. No program in this text.
-/
namespace Go.Proofs.YtmfhipjceeijmaaGreatDoor.R

theorem epochAt_snoc (ms : List Mk) (m : Mk) (p : Int) : epochAt (ms ++ [m]) p = if m.2 ≤ p then m.1 else epochAt ms p := by
  unfold epochAt; rw [List.foldl_append]; rfl
theorem fold_skip : ∀ (l : List Mk) (p n : Int), (∀ m ∈ l, p < m.2) → l.foldl (fun n m => if m.2 ≤ p then m.1 else n) n = n
  | [], _, _, _ => rfl
  | m :: l, p, n, h => by
    rw [List.foldl_cons, if_neg (by have := h m (by simp); omega)]
    exact fold_skip l p n fun x hx => h x (by simp [hx])
theorem epochAt_take {K : List Mk} {j : Nat} {p : Int} (h : ∀ m ∈ K.drop j, p < m.2) : epochAt (K.take j) p = epochAt K p := by
  have e : epochAt K p = epochAt (K.take j ++ K.drop j) p := by rw [List.take_append_drop]
  rw [e]
  unfold epochAt
  rw [List.foldl_append, fold_skip _ _ _ h]
theorem fold_congr : ∀ (l : List Mk) (p q n : Int), (∀ m ∈ l, m.2 ≤ p ↔ m.2 ≤ q) → l.foldl (fun n m => if m.2 ≤ p then m.1 else n) n = l.foldl (fun n m => if m.2 ≤ q then m.1 else n) n
  | [], _, _, _, _ => rfl
  | m :: l, p, q, n, h => by
    rw [List.foldl_cons, List.foldl_cons]
    have h1 := h m (by simp)
    by_cases hp : m.2 ≤ p
    · rw [if_pos hp, if_pos (h1.1 hp)]
      exact fold_congr l p q _ fun x hx => h x (by simp [hx])
    · rw [if_neg hp, if_neg (fun h2 => hp (h1.2 h2))]
      exact fold_congr l p q _ fun x hx => h x (by simp [hx])
theorem epochAt_congr {ms : List Mk} {p q : Int} (h : ∀ m ∈ ms, m.2 ≤ p ↔ m.2 ≤ q) : epochAt ms p = epochAt ms q := fold_congr ms p q 0 h

/-- Marks whose Firsts rise, and that tell the same epochs. -/
def Rise (K : List Mk) : Prop := K.Pairwise fun x y => x.2 < y.2
def Good (K ms : List Mk) : Prop := Rise K ∧ ∀ p, epochAt K p = epochAt ms p
theorem good_nil : Good [] [] := ⟨List.Pairwise.nil, fun _ => rfl⟩
theorem good_step {K ms : List Mk} {j : Nat} {m : Mk} (h : Good K ms) (h1 : ∀ x ∈ K.drop j, m.2 ≤ x.2) (h2 : ∀ x ∈ K.take j, x.2 < m.2) : Good (K.take j ++ [m]) (ms ++ [m]) := by
  refine ⟨List.pairwise_append.2 ⟨h.1.sublist (List.take_sublist _ _), List.pairwise_singleton _ _, fun a ha b hb => ?_⟩, fun p => ?_⟩
  · rw [List.mem_singleton] at hb
    rw [hb]
    exact h2 a ha
  · rw [epochAt_snoc, epochAt_snoc]
    by_cases hp : m.2 ≤ p
    · rw [if_pos hp, if_pos hp]
    · rw [if_neg hp, if_neg hp, ← h.2 p]
      exact epochAt_take fun x hx => by have := h1 x hx; omega
theorem take_low {K : List Mk} {j : Nat} {z : Int} (h : Rise K) (hj : j < K.length) (hz : K[j].2 < z) : ∀ x ∈ K.take (j + 1), x.2 < z := by
  intro x hx
  rw [List.take_succ_eq_append_getElem hj, List.mem_append] at hx
  rcases hx with hx | hx
  · have h2 : (K.take j ++ [K[j]]).Pairwise fun x y => x.2 < y.2 := by rw [← List.take_succ_eq_append_getElem hj]; exact h.sublist (List.take_sublist _ _)
    have := (List.pairwise_append.1 h2).2.2 x hx K[j] (by simp)
    omega
  · rw [List.mem_singleton] at hx
    rw [hx]; exact hz
theorem drop_high {K : List Mk} {j : Nat} {z : Int} (hj : j < K.length) (hz : z ≤ K[j].2) (h : ∀ x ∈ K.drop (j + 1), z ≤ x.2) : ∀ x ∈ K.drop j, z ≤ x.2 := by
  intro x hx
  rw [List.drop_eq_getElem_cons hj, List.mem_cons] at hx
  rcases hx with rfl | hx
  · exact hz
  · exact h x hx
theorem drop_above {K : List Mk} {j : Nat} {p : Int} (h : Rise K) (hj : j < K.length) (hz : p < K[j].2) : ∀ x ∈ K.drop j, p < x.2 := by
  intro x hx
  rw [List.drop_eq_getElem_cons hj, List.mem_cons] at hx
  rcases hx with rfl | hx
  · exact hz
  · have h2 : (K[j] :: K.drop (j + 1)).Pairwise fun x y => x.2 < y.2 := by rw [← List.drop_eq_getElem_cons hj]; exact h.sublist (List.drop_sublist _ _)
    have := (List.pairwise_cons.1 h2).1 x hx
    omega

/-- What was seen of marks that rise, up to a place. -/
def Seen (K : List Mk) (j : Nat) (q p : Int) : Prop := j ≤ K.length ∧ (∀ m ∈ K.take j, m.2 ≤ p) ∧ q = epochAt (K.take j) p
theorem seen_start (K : List Mk) (p : Int) : Seen K 0 0 p := ⟨Nat.zero_le _, fun m hm => by simp at hm, rfl⟩
theorem seen_mono {K : List Mk} {j : Nat} {q p p' : Int} (h : Seen K j q p) (hp : p ≤ p') : Seen K j q p' := by
  obtain ⟨h1, h2, h3⟩ := h
  refine ⟨h1, fun m hm => Int.le_trans (h2 m hm) hp, h3.trans (epochAt_congr fun m hm => ?_)⟩
  have := h2 m hm
  omega
theorem seen_step {K : List Mk} {j : Nat} {q p : Int} (h : Seen K j q p) (hj : j < K.length) (hp : K[j].2 ≤ p) : Seen K (j + 1) K[j].1 p := by
  obtain ⟨h1, h2, h3⟩ := h
  refine ⟨hj, fun m hm => ?_, ?_⟩
  · rw [List.take_succ_eq_append_getElem hj, List.mem_append, List.mem_singleton] at hm
    rcases hm with hm | rfl
    · exact h2 m hm
    · exact hp
  · rw [List.take_succ_eq_append_getElem hj, epochAt_snoc, if_pos hp]
theorem seen_end {K : List Mk} {j : Nat} {q p : Int} (h : Seen K j q p) (hr : Rise K) (he : ∀ hj : j < K.length, p < K[j].2) : q = epochAt K p := by
  obtain ⟨h1, h2, h3⟩ := h
  rw [h3]
  refine epochAt_take fun m hm => ?_
  by_cases hj : j < K.length
  · exact drop_above hr hj (he hj) m hm
  · rw [List.drop_of_length_le (by omega)] at hm
    simp at hm

/-- The places at which an epoch may turn. -/
def hi (ms : List Mk) : List Int := (ms.filter fun m => decide (1 < m.2)).map (·.2)
theorem hi_snoc_in {ms : List Mk} {m : Mk} (h : 1 < m.2) : hi (ms ++ [m]) = hi ms ++ [m.2] := by unfold hi; rw [List.filter_append]; simp [h]
theorem hi_snoc_out {ms : List Mk} {m : Mk} (h : ¬ 1 < m.2) : hi (ms ++ [m]) = hi ms := by unfold hi; rw [List.filter_append]; simp [h]
theorem mem_hi {ms : List Mk} {m : Mk} (h : m ∈ ms) (h1 : 1 < m.2) : m.2 ∈ hi ms := by
  unfold hi
  rw [List.mem_map]
  exact ⟨m, List.mem_filter.2 ⟨h, decide_eq_true h1⟩, rfl⟩
theorem hi_pos {ms : List Mk} {x : Int} (h : x ∈ hi ms) : 1 < x := by
  unfold hi at h
  rw [List.mem_map] at h
  obtain ⟨m, hm, rfl⟩ := h
  exact of_decide_eq_true (List.mem_filter.1 hm).2
theorem hi_len (ms : List Mk) : (hi ms).length ≤ ms.length := by
  unfold hi
  rw [List.length_map]
  exact List.length_filter_le _ _
def turnsL (a b : List Mk) : List Int := 1 :: (hi a ++ hi b)
def sorted (l : List Int) : List Int := l.mergeSort fun x y => decide (x ≤ y)
theorem sorted_rise (l : List Int) : (sorted l).Pairwise fun x y => x ≤ y := by
  have h := List.pairwise_mergeSort (le := fun x y : Int => decide (x ≤ y)) (fun a b c h1 h2 => by simp at h1 h2 ⊢; omega) (fun a b => by simp; omega) l
  exact h.imp fun h => of_decide_eq_true h
theorem mem_sorted {l : List Int} {x : Int} : x ∈ sorted l ↔ x ∈ l := List.mem_mergeSort
theorem sorted_len (l : List Int) : (sorted l).length = l.length := List.length_mergeSort l
theorem turns_pos {a b : List Mk} {x : Int} (h : x ∈ sorted (turnsL a b)) : 1 ≤ x := by
  rw [mem_sorted] at h
  unfold turnsL at h
  rw [List.mem_cons, List.mem_append] at h
  rcases h with rfl | h | h
  · exact Int.le_refl _
  · have := hi_pos h; omega
  · have := hi_pos h; omega
theorem turns_len (a b : List Mk) : (sorted (turnsL a b)).length ≤ a.length + b.length + 1 := by
  have h1 := hi_len a
  have h2 := hi_len b
  rw [sorted_len]
  unfold turnsL
  rw [List.length_cons, List.length_append]
  omega
theorem greatest : ∀ (l : List Int) (q x0 : Int), x0 ∈ l → x0 ≤ q → ∃ t ∈ l, t ≤ q ∧ ∀ x ∈ l, x ≤ q → x ≤ t
  | [], _, _, h, _ => by simp at h
  | y :: l, q, x0, h, hx => by
    by_cases hy : ∃ x1 ∈ l, x1 ≤ q
    · obtain ⟨x1, h1, h2⟩ := hy
      obtain ⟨t, ht, htq, hmax⟩ := greatest l q x1 h1 h2
      by_cases hyt : y ≤ q ∧ t < y
      · refine ⟨y, by simp, hyt.1, fun x hx hxq => ?_⟩
        rcases List.mem_cons.1 hx with rfl | hx
        · exact Int.le_refl _
        · have := hmax x hx hxq; omega
      · refine ⟨t, by simp [ht], htq, fun x hx hxq => ?_⟩
        rcases List.mem_cons.1 hx with rfl | hx
        · have h3 : ¬ t < x := fun h => hyt ⟨hxq, h⟩
          omega
        · exact hmax x hx hxq
    · have hyq : y ≤ q := by
        rcases List.mem_cons.1 h with rfl | h
        · exact hx
        · exact absurd ⟨x0, h, hx⟩ hy
      refine ⟨y, by simp, hyq, fun x hx hxq => ?_⟩
      rcases List.mem_cons.1 hx with rfl | hx
      · exact Int.le_refl _
      · exact absurd ⟨x, hx, hxq⟩ hy
/-- What holds at the places at which epochs turn holds between them. -/
theorem cover {a b : List Mk} {i : Nat} {q : Int} (hq : 1 ≤ q) (hin : ∀ x ∈ (sorted (turnsL a b)).take i, agree a b x = true) (hab : ∀ x ∈ (sorted (turnsL a b)).drop i, q < x) : agree a b q = true := by
  have h1 : (1 : Int) ∈ sorted (turnsL a b) := mem_sorted.2 (by unfold turnsL; simp)
  obtain ⟨t, ht, htq, hmax⟩ := greatest _ q 1 h1 hq
  have ht1 := hmax 1 h1 hq
  have hta : agree a b t = true := by
    rw [← List.take_append_drop i (sorted (turnsL a b)), List.mem_append] at ht
    rcases ht with ht | ht
    · exact hin t ht
    · have := hab t ht; omega
  have key : ∀ (ms : List Mk), (∀ x ∈ hi ms, x ∈ sorted (turnsL a b)) → epochAt ms q = epochAt ms t := fun ms hms => epochAt_congr fun m hm => by
    constructor
    · intro hmq
      by_cases h2 : 1 < m.2
      · exact hmax _ (hms _ (mem_hi hm h2)) hmq
      · omega
    · intro; omega
  have ka := key a fun x hx => mem_sorted.2 (by unfold turnsL; simp [hx])
  have kb := key b fun x hx => mem_sorted.2 (by unfold turnsL; simp [hx])
  unfold agree at hta ⊢
  rw [ka, kb]
  exact hta
theorem drop_ge {T : List Int} (hs : T.Pairwise fun x y => x ≤ y) {i : Nat} (hi : i < T.length) : ∀ x ∈ T.drop i, T[i] ≤ x := by
  intro x hx
  rw [List.drop_eq_getElem_cons hi, List.mem_cons] at hx
  rcases hx with rfl | hx
  · exact Int.le_refl _
  · have h2 : (T[i] :: T.drop (i + 1)).Pairwise fun x y => x ≤ y := by rw [← List.drop_eq_getElem_cons hi]; exact hs.sublist (List.drop_sublist _ _)
    exact (List.pairwise_cons.1 h2).1 x hx
theorem fork_part {a b : List Mk} {la lb : Int} {i : Nat} (hi : i < (sorted (turnsL a b)).length) (hin : ∀ x ∈ (sorted (turnsL a b)).take i, agree a b x = true) (hl : (sorted (turnsL a b))[i] ≤ max (min la lb) 0) (hp : agree a b (sorted (turnsL a b))[i] = false) :
    (fork a la b lb : Int) = (sorted (turnsL a b))[i] - 1 := by
  have h1 := turns_pos (a := a) (b := b) (List.getElem_mem hi)
  have hd := drop_ge (sorted_rise (turnsL a b)) hi
  generalize hz : (sorted (turnsL a b))[i] = z at *
  have hm : fork a la b lb = (z - 1).toNat := by
    refine fork_is (by omega) (fun q hq => cover (i := i) (by omega) hin fun x hx => ?_) (fun _ => ?_)
    · have := hd x hx; omega
    · rw [show (((z - 1).toNat : Nat) : Int) + 1 = z by omega]; exact hp
  rw [hm]; omega
theorem fork_whole {a b : List Mk} {la lb : Int} {i : Nat} (hin : ∀ x ∈ (sorted (turnsL a b)).take i, agree a b x = true) (he : ∀ hi : i < (sorted (turnsL a b)).length, max (min la lb) 0 < (sorted (turnsL a b))[i]) :
    (fork a la b lb : Int) = max (min la lb) 0 := by
  have hm : fork a la b lb = (max (min la lb) 0).toNat := by
    refine fork_is (by omega) (fun q hq => cover (i := i) (by omega) hin fun x hx => ?_) (fun h => by omega)
    by_cases hi : i < (sorted (turnsL a b)).length
    · have h1 := drop_ge (sorted_rise (turnsL a b)) hi x hx
      have h2 := he hi
      omega
    · rw [List.drop_of_length_le (by omega)] at hx
      simp at hx
  rw [hm]; omega

/-- Marks of a row, one entry after the other. -/
def lastE (o : Option Int) : List En → Option Int
  | [] => o
  | e :: l => lastE (some e.epoch) l
theorem marksF_snoc : ∀ (l : List En) (o : Option Int) (e : En), marksF o (l ++ [e]) = marksF o l ++ (if lastE o l = some e.epoch then [] else [(e.epoch, e.pos)])
  | [], o, e => by
    rw [List.nil_append, marksF, lastE]
    split
    · rename_i h; simp [marksF, h]
    · rename_i h; simp [marksF, h]
  | x :: l, o, e => by
    rw [List.cons_append, marksF, marksF, lastE, marksF_snoc l (some x.epoch) e]
    split <;> simp
theorem lastE_snoc : ∀ (l : List En) (o : Option Int) (e : En), lastE o (l ++ [e]) = some e.epoch
  | [], _, _ => rfl
  | x :: l, _, e => lastE_snoc l (some x.epoch) e
theorem lastE_take {l : List En} {i : Nat} (h : i < l.length) : lastE none (l.take (i + 1)) = some l[i].epoch := by
  rw [List.take_succ_eq_append_getElem h, lastE_snoc]
theorem marks_first {l : List En} (h : 0 < l.length) : marks (l.take 1) = [(l[0].epoch, l[0].pos)] := by
  match l, h with
  | e :: l, _ => rfl
theorem marks_same {l : List En} {i : Nat} (h : i + 1 < l.length) (he : l[i + 1].epoch = l[i].epoch) : marks (l.take (i + 1 + 1)) = marks (l.take (i + 1)) := by
  unfold marks
  rw [List.take_succ_eq_append_getElem h, marksF_snoc, lastE_take (by omega), if_pos (by rw [he]), List.append_nil]
theorem marks_new {l : List En} {i : Nat} (h : i + 1 < l.length) (he : ¬ l[i + 1].epoch = l[i].epoch) : marks (l.take (i + 1 + 1)) = marks (l.take (i + 1)) ++ [(l[i + 1].epoch, l[i + 1].pos)] := by
  unfold marks
  rw [List.take_succ_eq_append_getElem h, marksF_snoc, lastE_take (by omega), if_neg (fun h2 => he (Option.some.inj h2).symm)]
theorem marksF_len : ∀ (l : List En) (o : Option Int), (marksF o l).length ≤ l.length
  | [], _ => by simp [marksF]
  | e :: l, o => by
    rw [marksF]
    have := marksF_len l (some e.epoch)
    split <;> simp <;> omega
theorem marks_len (l : List En) : (marks l).length ≤ l.length := marksF_len l none
end Go.Proofs.YtmfhipjceeijmaaGreatDoor.R
