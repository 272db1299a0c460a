/-
  Contracts of package text in the words of lists, for the laws.
-/
import Derived.Test.YtnaabapahblhmaaW9
import Derived.Test.YtnaabapahblhmaaSpec6
namespace Go.Proofs.Ytnaabapahblhmaa
open Go.RowKit

theorem add_B (l m : List UInt8) : B l ++ B m = B (l ++ m) := ByteArray.mk_append_mk l m
theorem chain {P : Program} {f : Nat} {args : Array Value} {w w0 : World} {x : Ending} (h : Calls P f args w fun e w' => e = x ∧ Below w.heap.size w w') (hb : Below w0.heap.size w0 w) :
    Calls P f args w fun e w' => e = x ∧ Below w0.heap.size w0 w' := h.mono fun _ _ ⟨a, b⟩ => ⟨a, hb.trans (b.mono hb.size)⟩

theorem Name_l (m : List UInt8) (w : World) (hs : m.length ≤ 1000000) :
    Calls Try.prog 15 #[.string (B m)] w fun e w' => e = .returned (.bool (nameL m)) ∧ Below w.heap.size w w' := by
  have := Name_any (B m) w (by rw [size_B]; exact hs)
  rwa [L_B] at this
theorem Runes_l (m : List UInt8) (w : World) (hs : m.length ≤ 1000000) :
    Calls Try.prog 13 #[.string (B m)] w fun e w' => ∃ v, e = .returned v ∧ w'.ownsRow w.heap.size 3 1 v (T.nums m).length (intCells (T.nums m)) ∧ Below w.heap.size w w' := by
  have := Runes_any (B m) w (by rw [size_B]; exact hs)
  unfold RunesPost at this
  rwa [L_B] at this

end Go.Proofs.Ytnaabapahblhmaa
