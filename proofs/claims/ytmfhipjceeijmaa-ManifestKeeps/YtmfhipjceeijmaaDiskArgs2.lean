/-
  A row of numbers among the arguments of a law.
-/
import Derived.Test.YtmfhipjceeijmaaDiskArgs
namespace Go.Proofs.Ytmfhipjceeijmaa.D
open Go.RowKit Go.ChangeShapes Go.WideShapes Go.Deep
section
variable {H : Type} {enc : TypeId × Value → H} {P : Program} {w : World} {base : Nat} {spare : Nat → Bool} {held : Bool}
theorem arg_intsD {r : Reach} {b0 : Nat} {ts t : TypeId} {v : Value} {d : DataW H} {p : List MemPlace} (hts : P.underlying ts = some (.slice t)) (ht : P.underlying t = some (.int .i64)) (hC : P.cellsOf t = 1)
    (hv : Value.okWide P w r b0 ts v) (h : DataW.Trod enc P w base spare held ts v d p) : ∃ zs, ReadsI w v zs := by
  obtain ⟨a0, len, cap, rfl⟩ := okWide_slice hts hv
  obtain ⟨fuel, hf⟩ := h
  have hf2 : DataW.trod enc P w base spare held fuel ts [.slice a0 len cap] = some (d, p) := hf
  exact open_ints hts ht hC hf2
end
end Go.Proofs.Ytmfhipjceeijmaa.D
