/-
  Any disk that keeps its contracts.
-/
import Derived.Test.YtmfhipjceeijmaaDiskArgs
import Derived.Test.YtmfhipjceeijmaaBase
namespace Go.Proofs.Ytmfhipjceeijmaa.D
open Go.RowKit
attribute [local go_sem] ext_Bd ext_Bl ext_Bt toList_B add_B size_B get_Bt

/-- All that was there stays, but some blocks. -/
structure But (S : Nat → Prop) (w w' : World) : Prop where
  os : w'.os = w.os
  tape : w'.tape = w.tape
  output : w'.output = w.output
  size : w.heap.size ≤ w'.heap.size
  block : ∀ k, k < w.heap.size → ¬ S k → w'.heap[k]? = w.heap[k]?
theorem But.refl (S : Nat → Prop) (w : World) : But S w w := ⟨rfl, rfl, rfl, Nat.le_refl _, fun _ _ _ => rfl⟩
theorem But.trans {S : Nat → Prop} {a b c : World} (h : But S a b) (k : But S b c) : But S a c :=
  ⟨k.os.trans h.os, k.tape.trans h.tape, k.output.trans h.output, Nat.le_trans h.size k.size, fun i hi hs => (k.block i (Nat.lt_of_lt_of_le hi h.size) hs).trans (h.block i hi hs)⟩
theorem But.of_below {S : Nat → Prop} {w w' : World} (h : Below w.heap.size w w') : But S w w' := ⟨h.os, h.tape, h.output, h.size, fun k hk _ => h.block k hk⟩
/-- A disk's blocks behind a call: those that it had, or new ones. -/
def Grow (S : Nat → Prop) (w : World) (S2 : Nat → Prop) : Prop := ∀ k, S2 k → S k ∨ w.heap.size ≤ k
theorem Grow.wide {S S2 : Nat → Prop} {w w0 : World} (h : Grow S w S2) (hs : w0.heap.size ≤ w.heap.size) : Grow S w0 S2 := fun k hk => (h k hk).imp id fun h => Nat.le_trans hs h
theorem Grow.next {S S2 S3 : Nat → Prop} {w w2 : World} (h : Grow S w S2) (k : Grow S2 w2 S3) (hs : w.heap.size ≤ w2.heap.size) : Grow S w S3 := fun i hi => by
  rcases k i hi with h2 | h2
  · exact h i h2
  · exact .inr (Nat.le_trans hs h2)
theorem But.next {S S2 : Nat → Prop} {a b c : World} (h : But S a b) (k : But S2 b c) (hg : Grow S a S2) : But S a c :=
  ⟨k.os.trans h.os, k.tape.trans h.tape, k.output.trans h.output, Nat.le_trans h.size k.size, fun i hi hs => (k.block i (Nat.lt_of_lt_of_le hi h.size) fun h2 => by
    rcases hg i h2 with h3 | h3
    · exact hs h3
    · omega).trans (h.block i hi hs)⟩
abbrev dP (p : Nat) : Value := .pointer (some ⟨p, 0, none⟩)
/-- A disk: where it lies (bs: a bound from below, S: its blocks), and what its calls do. -/
structure DC where
  At : Nat → World → Nat → Nat → List F → (Nat → Prop) → Prop
  keep : ∀ {bs : Nat} {w w' : World} {p room : Nat} {l : List F} {S : Nat → Prop}, At bs w p room l S → w.heap.size ≤ w'.heap.size → (∀ k, S k → w'.heap[k]? = w.heap[k]?) → At bs w' p room l S
  low : ∀ {bs : Nat} {w : World} {p room : Nat} {l : List F} {S : Nat → Prop} {k : Nat}, At bs w p room l S → S k → bs ≤ k ∧ k < w.heap.size
  typ : ∀ {bs : Nat} {w : World} {p room : Nat} {l : List F} {S : Nat → Prop} {k : Nat} {c : Array Value} {fr : Nat × Nat}, At bs w p room l S → S k → w.heap[k]? ≠ some (.cells c 156 fr)
  new_ok : ∀ {bs : Nat} {w : World} (room : Nat), bs ≤ w.heap.size → 1 ≤ room → room ≤ 1073741824 →
    Calls Try.prog 18 #[.int .i64 (room : Int)] w fun x w' => (∃ p S, x = .returned (.tuple #[dP p, .int .i64 0]) ∧ At bs w' p room [] S ∧ ∀ k, S k → w.heap.size ≤ k) ∧ Below w.heap.size w w'
  new_bad : ∀ {w : World} (room : Int), room < 1 ∨ 1073741824 < room →
    Calls Try.prog 18 #[.int .i64 room] w fun x w' => x = .returned (.tuple #[.pointer none, .int .i64 1]) ∧ Below w.heap.size w w'
  append : ∀ {bs : Nat} {w : World} {p room : Nat} {l : List F} {S : Nat → Prop} (n s : Tx) (e : Nat) (l2 : List F), At bs w p room l S → Inv room l → room ≤ 1073741824 → n.length ≤ 100000 → s.length ≤ 1000000000 → D.append room n s l = (e, l2) →
    Calls Try.prog 10 #[dP p, .string (B n), .string (B s)] w fun x w' => x = .returned (.int .i64 (e : Int)) ∧ (∃ S2, At bs w' p room (l2) S2 ∧ Grow S w S2) ∧ But S w w'
  sync : ∀ {bs : Nat} {w : World} {p room : Nat} {l : List F} {S : Nat → Prop} (n : Tx) (e : Nat) (l2 : List F), At bs w p room l S → Inv room l → room ≤ 1073741824 → n.length ≤ 100000 → D.sync n l = (e, l2) →
    Calls Try.prog 33 #[dP p, .string (B n)] w fun x w' => x = .returned (.int .i64 (e : Int)) ∧ (∃ S2, At bs w' p room (l2) S2 ∧ Grow S w S2) ∧ But S w w'
  rename : ∀ {bs : Nat} {w : World} {p room : Nat} {l : List F} {S : Nat → Prop} (a b : Tx) (e : Nat) (l2 : List F), At bs w p room l S → Inv room l → room ≤ 1073741824 → a.length ≤ 100000 → b.length ≤ 100000 → D.rename a b l = (e, l2) →
    Calls Try.prog 36 #[dP p, .string (B a), .string (B b)] w fun x w' => x = .returned (.int .i64 (e : Int)) ∧ (∃ S2, At bs w' p room (l2) S2 ∧ Grow S w S2) ∧ But S w w'
  delete : ∀ {bs : Nat} {w : World} {p room : Nat} {l : List F} {S : Nat → Prop} (n : Tx) (e : Nat) (l2 : List F), At bs w p room l S → Inv room l → room ≤ 1073741824 → n.length ≤ 100000 → D.delete n l = (e, l2) →
    Calls Try.prog 34 #[dP p, .string (B n)] w fun x w' => x = .returned (.int .i64 (e : Int)) ∧ (∃ S2, At bs w' p room (l2) S2 ∧ Grow S w S2) ∧ But S w w'
  crash : ∀ {bs : Nat} {w : World} {p room : Nat} {l : List F} {S : Nat → Prop} (ks : List Int) (v : Value), At bs w p room l S → Inv room l → room ≤ 1073741824 → (∀ w', But S w w' → ReadsI w' v ks) → ks.length ≤ 100000 →
    Calls Try.prog 11 #[dP p, v] w fun x w' => x = .returned (.tuple #[]) ∧ (∃ S2, At bs w' p room (D.crash ks l) S2 ∧ Grow S w S2) ∧ But S w w'
  read : ∀ {bs : Nat} {w : World} {p room : Nat} {l : List F} {S : Nat → Prop} (n s : Tx) (e : Nat), At bs w p room l S → Inv room l → room ≤ 1073741824 → n.length ≤ 100000 → D.read n l = (s, e) →
    Calls Try.prog 43 #[dP p, .string (B n)] w fun x w' => x = .returned (.tuple #[.string (B s), .int .i64 (e : Int)]) ∧ Below w.heap.size w w'
  used : ∀ {bs : Nat} {w : World} {p room : Nat} {l : List F} {S : Nat → Prop}, At bs w p room l S → Inv room l → room ≤ 1073741824 → 
    Calls Try.prog 16 #[dP p] w fun x w' => x = .returned (.int .i64 (D.used l : Int)) ∧ Below w.heap.size w w'
  list : ∀ {bs : Nat} {w : World} {p room : Nat} {l : List F} {S : Nat → Prop}, At bs w p room l S → Inv room l → room ≤ 1073741824 → 
    Calls Try.prog 25 #[dP p] w fun x w' => (∃ v, x = .returned v ∧ Reads w' v (strCells (l.map F.name))) ∧ Below w.heap.size w w'
variable {bs : Nat}
theorem DC.below (C : DC) {w w' : World} {p room : Nat} {l : List F} {S : Nat → Prop} (h : C.At bs w p room l S) (hb : Below w.heap.size w w') : C.At bs w' p room l S :=
  C.keep h hb.size fun _ hk => hb.block _ (C.low h hk).2
theorem DC.but (C : DC) {w w' : World} {p room : Nat} {l : List F} {S T : Nat → Prop} (h : C.At bs w p room l S) (hb : But T w w') (hd : ∀ k, S k → ¬ T k) : C.At bs w' p room l S :=
  C.keep h hb.size fun k hk => hb.block k (C.low h hk).2 (hd k hk)
end Go.Proofs.Ytmfhipjceeijmaa.D
