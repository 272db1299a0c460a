/-
  A region that draws its order, walked operation by operation: laws that hand over each operation written out, also one that its guard passes over.
-/
import Derived.Test.YtmfhipjceeijmaaBase
import Derived.Deep.RegionHeld3
namespace Go.Proofs.Ytmfhipjceeijmaa
open Go.RowKit
section
variable {P : Program} {ops : Array Oper} {Q : Exit → Act → World → Prop} {md : Region.Mode} {S : World → Prop} {fuel : Nat} {listed : Array Bool} {a : Act} {w : World}
theorem op_at {i : Nat} {oi : Oper} {rest : List Oper} (hl : ops.toList.drop i = oi :: rest) : ops[i]? = some oi := by
  have h := congrArg (fun l => l[0]?) hl
  simpa using h
/-- An operation that yields its value in every world that meets S is taken first. -/
theorem take_wanted {i : Nat} {oi : Oper} {rest : List Oper} {v : Value} (hl : ops.toList.drop i = oi :: rest) (hs : Region.noSelect ops = true) (hf : Region.free md ops listed i = true) (hr : (Region.ready md ops listed).contains i = true)
    (hQ : ∀ c a w, Q (.panic c) (a.put oi.dst v) w → Q (.panic c) a w) (hw : Region.wanted oi (yielded ops a.tmps) = true) (hy : ∀ w, S w → (execOp a.eval oi).run P w = .ok (.value v) w) (hS : S w)
    (h : wpAnyH P md ops Q S fuel (listed.setIfInBounds i true) (a.put oi.dst v) w) : wpAnyH P md ops Q S (fuel + 1) listed a w :=
  wpAnyH_take (op_at hl) hs hf hr hQ (.inl ⟨hw, hy⟩) hS h
/-- An operation that its guard passes over is taken first. -/
theorem take_passed {i : Nat} {oi : Oper} {rest : List Oper} (hl : ops.toList.drop i = oi :: rest) (hs : Region.noSelect ops = true) (hf : Region.free md ops listed i = true) (hr : (Region.ready md ops listed).contains i = true)
    (hQ : ∀ c a w, Q (.panic c) (a.put oi.dst undef) w → Q (.panic c) a w) (hw : Region.wanted oi (yielded ops a.tmps) = false) (hS : S w)
    (h : wpAnyH P md ops Q S fuel (listed.setIfInBounds i true) (a.put oi.dst undef) w) : wpAnyH P md ops Q S (fuel + 1) listed a w :=
  wpAnyH_take (op_at hl) hs hf hr hQ (.inr ⟨hw, rfl⟩) hS h
/-- The one operation that may come up is carried out. -/
theorem take_only {i : Nat} {oi : Oper} {rest : List Oper} (hr : Region.ready md ops listed = [i]) (hl : ops.toList.drop i = oi :: rest) (hw : Region.wanted oi (yielded ops a.tmps) = true)
    (h : ∀ K' : Act → World → Prop, Shut (∀ a w, S w → (S w → wpAnyH P md ops Q S fuel (listed.setIfInBounds i true) a w) → K' a w) → Oper.wp P oi a w K' Q) : wpAnyH P md ops Q S (fuel + 1) listed a w :=
  wpAnyH_ready hr (by simp) (AllReadyH.cons (op_at hl) (fun K' hK => by rw [if_pos hw]; exact h K' hK) AllReadyH.nil)
end
end Go.Proofs.Ytmfhipjceeijmaa
