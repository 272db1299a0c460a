/-
  Walks of plain, light and small of the statements' package.
-/
import Derived.Test.YtljcgpdjhjkciaaGreatRecordMarks
import Derived.Test.YtljcgpdjhjkciaaGreatRecordRight
namespace Go.Proofs.YtljcgpdjhjkciaaGreat
open Go.RowKit
attribute [local go_sem] ext_Bd ext_Bl ext_Bt toList_B add_B size_B get_Bt

/-- A right entry. -/
def plainE (pos epoch : Int) : R.En := ⟨pos, epoch, ⟨[115], 0, 1, 1, [([107], [])]⟩⟩
theorem plain_b (pos epoch : Int) : (plainE pos epoch).b = ⟨[115], 0, 1, 1, [([107], [])]⟩ := rfl
theorem plain_fits (pos epoch : Int) : E.fits (plainE pos epoch).b = 0 := by rw [plain_b]; decide +kernel
theorem plain_right {pos epoch : Int} (h1 : 1 ≤ pos) (h2 : pos ≤ 274877906944) (h3 : 1 ≤ epoch) (h4 : epoch ≤ 274877906944) : R.right (plainE pos epoch) = true :=
  R.right_iff.2 ⟨h1, h2, h3, h4, plain_fits pos epoch⟩
theorem plain_small (pos epoch : Int) : E.Small (plainE pos epoch).b := by
  rw [plain_b]
  refine E.Small.of (by decide) (fun e he => ?_)
  simp at he
  subst he
  decide


def R.Light (b : E.Bat) : Prop := b.stream.length ≤ 300 ∧ b.events.length ≤ 20 ∧ ∀ e ∈ b.events, e.1.length ≤ 300 ∧ e.2.length ≤ 500
theorem light_small {b : E.Bat} (h : R.Light b) : E.Small b :=
  E.Small.of (by have := h.1; omega) (fun e he => by have := h.2.2 e he; omega)


end Go.Proofs.YtljcgpdjhjkciaaGreat
