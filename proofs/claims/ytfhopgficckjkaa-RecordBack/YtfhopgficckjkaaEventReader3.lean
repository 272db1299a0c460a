/-
  Walks of Take and TakeBatch of package event.
-/
import Derived.Test.YtfhopgficckjkaaEventReader2
namespace Go.Proofs.Ytfhopgficckjkaa
open Go.RowKit
attribute [local go_sem] ext_Bd ext_Bl ext_Bt toList_B add_B size_B get_Bt

/-- What is taken: an event, what is behind, and the error. -/
def evRes (o : K.Rd E.Ev) : E.Ev × List UInt8 × Nat :=
  match o with
  | Sum.inl (e, r) => (e, r, 0)
  | Sum.inr c => (([], []), [], c)
def batRes (o : K.Rd E.Bat) : E.Bat × List UInt8 × Nat :=
  match o with
  | Sum.inl (b, r) => (b, r, 0)
  | Sum.inr c => (⟨[], 0, 0, 0, []⟩, [], c)

theorem three_new (w : World) (A R F : Obj) : (((w.alloc A).alloc R).alloc F).heap[w.heap.size]? = some A ∧ (((w.alloc A).alloc R).alloc F).heap[w.heap.size + 1]? = some R ∧ (((w.alloc A).alloc R).alloc F).heap[w.heap.size + 1 + 1]? = some F ∧ Below w.heap.size w (((w.alloc A).alloc R).alloc F) := by
  refine ⟨?_, ?_, ?_, (((Below.refl _ w).alloc (Nat.le_refl _) A).alloc (by simp) R).alloc (by simp; omega) F⟩
  · rw [Below.heap_alloc _ _ _ (by simp; omega), Below.heap_alloc _ _ _ (by simp)]; exact World.alloc_heap_new w A
  · rw [Below.heap_alloc _ _ _ (by simp)]
    have := World.alloc_heap_new (w.alloc A) R
    rwa [World.size_alloc] at this
  · have := World.alloc_heap_new ((w.alloc A).alloc R) F
    rwa [World.size_alloc, World.size_alloc] at this
/-- A block that calls left as it was. -/
theorem block_kept {w w' : World} {g h : Nat} {o : Obj} (ho : w.heap[h]? = some o) (hg : w.grownBy w' (some g)) (hne : h ≠ g) : w'.heap[h]? = some o :=
  (hg.block h (Array.getElem?_eq_some_iff.1 ho).1 (by simpa using hne)).trans ho
theorem block_below {w w' : World} {h : Nat} {o : Obj} (ho : w.heap[h]? = some o) (hb : Below w.heap.size w w') : w'.heap[h]? = some o :=
  (hb.block h (Array.getElem?_eq_some_iff.1 ho).1).trans ho
theorem block_cell {w : World} {h : Nat} {cs : Array Value} {t : TypeId} (ho : w.heap[h]? = some (.cells cs t (0, 0))) (j : Nat) : w.cell? ⟨h, j, none⟩ = cs[j]? := by simp [World.cell?, ho]
theorem block_loose {w : World} {h : Nat} {cs : Array Value} {t : TypeId} (ho : w.heap[h]? = some (.cells cs t (0, 0))) (j : Nat) : w.frozen? ⟨h, j, none⟩ = false := by simp [World.frozen?, ho]
theorem set_two {w : World} {g : Nat} {x y a b : Value} {t : TypeId} (h : w.heap[g]? = some (.cells #[x, y] t (0, 0))) : ((w.setCell ⟨g, 0, none⟩ a).setCell ⟨g, 1, none⟩ b).cell? ⟨g, 0, none⟩ = some a ∧ ((w.setCell ⟨g, 0, none⟩ a).setCell ⟨g, 1, none⟩ b).cell? ⟨g, 1, none⟩ = some b := by
  have h2 : ((w.setCell ⟨g, 0, none⟩ a).setCell ⟨g, 1, none⟩ b).heap[g]? = some (.cells #[a, b] t (0, 0)) := set_block (set_block h 0 a) 1 b
  exact ⟨block_cell h2 0, block_cell h2 1⟩
theorem takeEv_bad {l : List UInt8} {c : Nat} (h : E.parts l = Sum.inr c) : E.takeEv l = Sum.inr c := K.bind_bad _ h
theorem takeEv_ok {l r : List UInt8} {e : E.Ev} (h : E.parts l = Sum.inl (e, r)) (hr : E.right e = true) : E.takeEv l = Sum.inl (e, r) := (K.bind_ok _ h).trans (if_pos hr)
theorem takeEv_form {l r : List UInt8} {e : E.Ev} (h : E.parts l = Sum.inl (e, r)) (hr : E.right e = false) : E.takeEv l = Sum.inr 2 := (K.bind_ok _ h).trans (if_neg (by rw [hr]; decide))
theorem parts_small {l q : List UInt8} {e : E.Ev} (h : E.parts l = Sum.inl (e, q)) : e.1.length ≤ 200 ∧ e.2.length ≤ 200 := (E.partsC.inv l e q h).2

end Go.Proofs.Ytfhopgficckjkaa
