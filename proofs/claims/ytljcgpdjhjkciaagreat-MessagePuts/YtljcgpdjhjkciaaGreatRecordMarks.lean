/-
  Walk of package record: Marks.
-/
import Derived.Test.YtljcgpdjhjkciaaGreatRecordForce
namespace Go.Proofs.YtljcgpdjhjkciaaGreat
open Go.RowKit
attribute [local go_sem] ext_Bd ext_Bl ext_Bt toList_B add_B size_B get_Bt

abbrev ensOf (es : List EV) : List R.En := es.map (·.1)
theorem ensOf_len (es : List EV) : (ensOf es).length = es.length := List.length_map _
/-- The marks of some entries, in a row of the call's own. -/
structure MarksAt (w : World) (l : List R.En) (k : Nat) (v : Value) (wr : World) : Prop where
  own : wr.ownsRow w.heap.size 87 2 v (R.marks (l.take k)).length (mkCells (R.marks (l.take k)))
  bel : Below w.heap.size w wr
theorem marks_next {w wr w1 : World} {l : List R.En} {k : Nat} {v v' : Value} {m : R.Mk} {o2 : Obj} {q : Nat} (h : MarksAt w l k v wr) (hm : R.marks (l.take (k + 1)) = R.marks (l.take k) ++ [m])
    (hown : w1.ownsRow w.heap.size 87 2 v' ((R.marks (l.take k)).length + 1) (mkCells (R.marks (l.take k)) ++ [.int .i64 m.1, .int .i64 m.2])) (hg : ((wr.drewN q).alloc o2).grownBy w1 v.ownBlock) : MarksAt w l (k + 1) v' w1 := by
  have hb1 : Below w.heap.size w (wr.drewN q) := below_drewN h.bel q
  refine ⟨by rw [hm, mkCells_snoc, List.length_append]; exact hown, (hb1.alloc hb1.size o2).grown hg (by have := h.bel.size; simp; omega) fun b hb => (h.own.lt b hb).1⟩
theorem marks_quiet {w wr : World} {l : List R.En} {k : Nat} {v : Value} (h : MarksAt w l k v wr) (hm : R.marks (l.take (k + 1)) = R.marks (l.take k)) (q : Nat) : MarksAt w l (k + 1) v (wr.drewN q) :=
  ⟨by rw [hm]; exact own_drewN h.own q, below_drewN h.bel q⟩
theorem readsE_form {w : World} {v : Value} {evs : List E.Ev} (h : ReadsE w v evs) : ∃ a n c, v = .slice a n c := by
  obtain ⟨a, c, rfl, _⟩ := h
  exact ⟨a, _, c, rfl⟩
theorem box_cells (wr : World) (cs : Array Value) (t : TypeId) (j : Nat) : (wr.alloc (.cells cs t)).cell? ⟨wr.heap.size, j, none⟩ = cs[j]? := by rw [World.cell?_alloc_new]

end Go.Proofs.YtljcgpdjhjkciaaGreat
