/-
  Messages of the document's chapter 7, over lists of bytes: a message is its kind and a row of parts; of each kind it is said which parts stand there. No program in this text.
-/
import Derived.Test.YtljcgpdjhjkciaaGreatRecordSpec
namespace Go.Proofs.YtljcgpdjhjkciaaGreat.M
open K

theorem congr_put {α : Type} {ok : α → Prop} {put put2 : α → List UInt8} {take : List UInt8 → Rd α} (C : Codec ok put take) (h : ∀ a, ok a → put2 a = put a) : Codec ok put2 take where
  back a r ha := by rw [h a ha]; exact C.back a r ha
  inv l a r hl := by
    obtain ⟨h1, h2⟩ := C.inv l a r hl
    exact ⟨by rw [h a h2]; exact h1, h2⟩
  cut a k ha hk := by
    rw [h a ha] at hk ⊢
    exact C.cut a k ha hk
/-- What a part is: a number, numbers, marks, entries, events, a batch, a stream. -/
inductive Lt where
  | n | c | m | e | v | b | s
inductive Pt where
  | n (z : Int)
  | c (l : List Int)
  | m (l : List R.Mk)
  | e (l : List R.En)
  | v (l : List E.Ev)
  | b (x : E.Bat)
  | s (x : List UInt8)
def putI (z : Int) : List UInt8 := N.putL (N.held z)
def putM (m : R.Mk) : List UInt8 := putI m.1 ++ putI m.2
def putP : Pt → List UInt8
  | .n z => putI z
  | .c l => N.putL l.length ++ l.flatMap putI
  | .m l => N.putL l.length ++ l.flatMap putM
  | .e l => N.putL l.length ++ l.flatMap R.bytes
  | .v l => N.putL l.length ++ l.flatMap E.putE
  | .b x => E.bytes x
  | .s x => N.putT x
def shape : Nat → List Lt
  | 1 => [.n, .n, .n]
  | 2 => [.n, .n]
  | 3 => [.n, .n]
  | 4 => [.n, .c, .c, .c]
  | 5 => [.n]
  | 6 => [.n, .n, .n, .m]
  | 7 => [.n, .n, .n, .n, .n, .n, .e]
  | 8 => [.n, .n, .n]
  | 9 => [.n, .n, .n, .n]
  | 10 => [.n, .n, .n, .n]
  | 11 => [.n, .b]
  | 12 => [.n, .s, .n]
  | 13 => [.n, .n, .n, .n, .n, .n]
  | 14 => [.n, .n, .n, .v]
  | _ => []
/-- Parts one behind the other. -/
def takeS (take : Lt → List UInt8 → Rd Pt) : List Lt → List UInt8 → Rd (List Pt)
  | [], l => Sum.inl ([], l)
  | t :: ts, l => bind (take t l) fun p r => bind (takeS take ts r) fun ps q => Sum.inl (p :: ps, q)
def fits (ok : Lt → Pt → Prop) : List Lt → List Pt → Prop
  | [], [] => True
  | t :: ts, p :: ps => ok t p ∧ fits ok ts ps
  | _, _ => False
theorem rows {ok : Lt → Pt → Prop} {take : Lt → List UInt8 → Rd Pt} (C : ∀ t, Codec (ok t) putP (take t)) : ∀ ts : List Lt, Codec (fits ok ts) (fun ps => ps.flatMap putP) (takeS take ts)
  | [] => {
    back := fun ps r h => by
      match ps, h with
      | [], _ => rfl
    inv := fun l ps r h => by
      have h2 : (([] : List Pt), l) = (ps, r) := Sum.inl.inj h
      cases h2
      exact ⟨rfl, trivial⟩
    cut := fun ps k h hk => by
      match ps, h with
      | [], _ => simp at hk }
  | t :: ts => by
    have D := (C t).pair (rows C ts)
    have E2 := D.map (fun p => p.1 :: p.2) (fun ps => match ps with | p :: q => (p, q) | [] => (.n 0, [])) (ok' := fits ok (t :: ts)) (fun a h => ⟨rfl, h⟩) (fun ps h => by
      match ps, h with
      | p :: q, h => exact ⟨rfl, h⟩)
    have e : takeS take (t :: ts) = fun l => bind (bind (take t l) fun a r => bind (takeS take ts r) fun b q => Sum.inl ((a, b), q)) fun a r => Sum.inl (a.1 :: a.2, r) := by
      funext l
      simp only [E.bind_assoc, E.bind_pure]
      rfl
    rw [e]
    exact congr_put E2 fun ps h => by
      match ps, h with
      | p :: q, _ => rfl

def takeI (l : List UInt8) : Rd Int := bind (N.takeL l) fun n r => Sum.inl ((n : Int), r)
def takeMk (l : List UInt8) : Rd R.Mk := bind (takeI l) fun a r => bind (takeI r) fun b q => Sum.inl ((a, b), q)
def takeC {α : Type} (most : Nat) (take : List UInt8 → Rd α) (l : List UInt8) : Rd (List α) := bind (N.takeL l) fun n r => if most < n then Sum.inr 4 else takeN take n r
def as {α : Type} (f : α → Pt) (x : Rd α) : Rd Pt := bind x fun a r => Sum.inl (f a, r)
def takeP : Lt → List UInt8 → Rd Pt
  | .n, l => as .n (takeI l)
  | .c, l => as .c (takeC 6 takeI l)
  | .m, l => as .m (takeC 30 takeMk l)
  | .e, l => as .e (takeC 8 R.takeEn l)
  | .v, l => as .v (takeC 16 E.takeEv l)
  | .b, l => as .b (E.takeBat l)
  | .s, l => as .s (N.takeT l ((200 : Nat) : Int))
def okP : Lt → Pt → Prop
  | .n, p => ∃ z, p = .n z ∧ intOk z
  | .c, p => ∃ l, p = .c l ∧ l.length ≤ 6 ∧ ∀ x ∈ l, intOk x
  | .m, p => ∃ l, p = .m l ∧ l.length ≤ 30 ∧ ∀ x ∈ l, intOk x.1 ∧ intOk x.2
  | .e, p => ∃ l, p = .e l ∧ l.length ≤ 8 ∧ ∀ x ∈ l, R.enOk x ∧ R.right x = true
  | .v, p => ∃ l, p = .v l ∧ l.length ≤ 16 ∧ ∀ x ∈ l, (txtOk 200 x.1 ∧ txtOk 200 x.2) ∧ E.right x = true
  | .b, p => ∃ x, p = .b x ∧ E.batOk x ∧ decide (E.fits x = 0) = true
  | .s, p => ∃ x, p = .s x ∧ txtOk 200 x
theorem partC : ∀ t : Lt, Codec (okP t) putP (takeP t)
  | .n => congr_put (ints.map Pt.n (fun p => match p with | .n z => z | _ => 0) (ok' := okP .n) (fun a h => ⟨rfl, a, rfl, h⟩) (fun p h => by obtain ⟨z, rfl, h⟩ := h; exact ⟨rfl, h⟩)) fun p h => by obtain ⟨z, rfl, _⟩ := h; rfl
  | .c => congr_put ((ints.counted (most := 6) (by omega)).map Pt.c (fun p => match p with | .c z => z | _ => []) (ok' := okP .c) (fun a h => ⟨rfl, a, rfl, h⟩) (fun p h => by obtain ⟨z, rfl, h⟩ := h; exact ⟨rfl, h⟩)) fun p h => by obtain ⟨z, rfl, _⟩ := h; rfl
  | .m => congr_put (((ints.pair ints).counted (most := 30) (by omega)).map Pt.m (fun p => match p with | .m z => z | _ => []) (ok' := okP .m) (fun a h => ⟨rfl, a, rfl, h⟩) (fun p h => by obtain ⟨z, rfl, h⟩ := h; exact ⟨rfl, h⟩)) fun p h => by obtain ⟨z, rfl, _⟩ := h; rfl
  | .e => congr_put ((R.enC.counted (most := 8) (by omega)).map Pt.e (fun p => match p with | .e z => z | _ => []) (ok' := okP .e) (fun a h => ⟨rfl, a, rfl, h⟩) (fun p h => by obtain ⟨z, rfl, h⟩ := h; exact ⟨rfl, h⟩)) fun p h => by obtain ⟨z, rfl, _⟩ := h; rfl
  | .v => congr_put ((E.evC.counted (most := 16) (by omega)).map Pt.v (fun p => match p with | .v z => z | _ => []) (ok' := okP .v) (fun a h => ⟨rfl, a, rfl, h⟩) (fun p h => by obtain ⟨z, rfl, h⟩ := h; exact ⟨rfl, h⟩)) fun p h => by obtain ⟨z, rfl, _⟩ := h; rfl
  | .b => congr_put (E.batC.map Pt.b (fun p => match p with | .b z => z | _ => ⟨[], 0, 0, 0, []⟩) (ok' := okP .b) (fun a h => ⟨rfl, a, rfl, h⟩) (fun p h => by obtain ⟨z, rfl, h⟩ := h; exact ⟨rfl, h⟩)) fun p h => by obtain ⟨z, rfl, _⟩ := h; rfl
  | .s => congr_put ((texts (most := 200) (by omega)).map Pt.s (fun p => match p with | .s z => z | _ => []) (ok' := okP .s) (fun a h => ⟨rfl, a, rfl, h⟩) (fun p h => by obtain ⟨z, rfl, h⟩ := h; exact ⟨rfl, h⟩)) fun p h => by obtain ⟨z, rfl, _⟩ := h; rfl
theorem bodyC (k : Nat) : Codec (fits okP (shape k)) (fun ps => ps.flatMap putP) (takeS takeP (shape k)) := rows partC (shape k)

/-- A whole message: its kind, and its parts. -/
structure Msg where
  kind : Nat
  parts : List Pt
def large : Int := 274877906944
def numR (z : Int) : Bool := decide (0 ≤ z) && decide (z ≤ large)
/-- Is a part right? -/
def rightP : Pt → Bool
  | .n z => numR z
  | .c l => decide (l.length ≤ 6) && l.all numR
  | .m l => decide (l.length ≤ 30) && l.all fun m => numR m.1 && numR m.2
  | .e l => decide (l.length ≤ 8) && l.all R.right
  | .v l => decide (l.length ≤ 16) && l.all E.right
  | .b x => decide (E.fits x = 0)
  | .s x => nameL x
def bytesM (m : Msg) : List UInt8 := m.kind.toUInt8 :: m.parts.flatMap putP
/-- Bytes as a message: the parts of the kind, all right, and nothing left. -/
def takeMsg (l : List UInt8) : Sum Msg Nat :=
  match l with
  | [] => Sum.inr 3
  | c :: r => if shape c.toNat = [] then Sum.inr 2 else
    match takeS takeP (shape c.toNat) r with
    | Sum.inr e => Sum.inr e
    | Sum.inl (ps, q) => if ps.all rightP = true ∧ q = [] then Sum.inl ⟨c.toNat, ps⟩ else Sum.inr 2
theorem take_is {l : List UInt8} {m : Msg} (h : takeMsg l = Sum.inl m) : l = bytesM m ∧ m.parts.all rightP = true ∧ fits okP (shape m.kind) m.parts ∧ shape m.kind ≠ [] := by
  unfold takeMsg at h
  match l, h with
  | c :: r, h =>
    dsimp only at h
    by_cases hs : shape c.toNat = []
    · rw [if_pos hs] at h; cases h
    · rw [if_neg hs] at h
      cases ht : takeS takeP (shape c.toNat) r with
      | inr e => rw [ht] at h; cases h
      | inl x =>
        obtain ⟨ps, q⟩ := x
        rw [ht] at h
        dsimp only at h
        by_cases hr : ps.all rightP = true ∧ q = []
        · rw [if_pos hr] at h
          cases h
          obtain ⟨h1, h2⟩ := (bodyC c.toNat).inv r ps q ht
          refine ⟨?_, hr.1, h2, hs⟩
          unfold bytesM
          rw [h1, hr.2, List.append_nil]
          simp
        · rw [if_neg hr] at h; cases h
theorem take_back {m : Msg} (hk : m.kind < 256) (hs : shape m.kind ≠ []) (hf : fits okP (shape m.kind) m.parts) (hr : m.parts.all rightP = true) : takeMsg (bytesM m) = Sum.inl m := by
  obtain ⟨k, ps⟩ := m
  dsimp only at hk hs hf hr
  have e1 : k.toUInt8.toNat = k := by simp; omega
  unfold takeMsg bytesM
  dsimp only
  have h1 := (bodyC k).back ps [] hf
  rw [List.append_nil] at h1
  rw [e1, if_neg hs, h1]
  dsimp only
  rw [if_pos ⟨hr, rfl⟩]
end Go.Proofs.YtljcgpdjhjkciaaGreat.M
