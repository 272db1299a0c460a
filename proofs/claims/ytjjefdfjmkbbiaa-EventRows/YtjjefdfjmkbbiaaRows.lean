/-
  No cell of these rows narrows 'for every input' (looked for: loops, veiled, ifaces, maps, wideKeys, modest, calm, conditions, laid).
  DERIVED. THE GIVEN ROWS OF THIS SEAT. 6 by the template 'for every input the law returns true; each argument reads behind the call as it read before'; 0 by the template 'total and deterministic' (their statements: YtjjefdfjmkbbiaaTotals.lean).
  GIVEN WITH THE SEED: the statements are not yours to turn. If you find one false, say at which input.
  Laid BY PROGRAM, IN A SANDBOX (cutbox-rows.mjs): the forced cells as the released guide's own fill.sh prints them over the translation f1d1a60a099b3386… (all of the seat's roots in one cut). By AI agents, Wed Nov 11 2026. No macro, syntax, notation, axiom, sorry.
-/
import Derived.Test.YtjjefdfjmkbbiaaChecked
import GoSem.Claim
import GoSem.ClaimJoined
import GoSem.ClaimMapViews
import Derived.JoinedTies
import Derived.KernelRfl
namespace Go.Proofs.Ytjjefdfjmkbbiaa
/- THE CELL 'sum', in the pinned program and in every row, IS THE sha256 OF THE DUMP (.gsa) THAT YtjjefdfjmkbbiaaProg.lean LOADS. Nothing in Lean hashes anything: it is a label: what it is worth is what the hold of that sum in a sandbox is worth. -/
noncomputable def Try.pinned : Pinned := { name := "ytjjefdfjmkbbiaa", sum := "f1d1a60a099b3386bab3c9df3f9ae0b383f57d3ff26d14742e93c00b99e01ac9", checked := Try.checked }
namespace Rows
def none {H : Type} : Left H := { results := [], args := [] }

/-- 'bucketlinelaw5.EventPuts': WHATEVER THE INPUT: true; the input reads as it did. -/
def eventPutsSpec : ChangeSpec := { name := "eventPuts", fn := fun _ => fun
  | [d1, d2] => { results := [.lit (.bool true)], args := [d1, d2] }
  | _ => none }
def eventPutsRow : OpenClaim := { program := "ytjjefdfjmkbbiaa", sum := "f1d1a60a099b3386bab3c9df3f9ae0b383f57d3ff26d14742e93c00b99e01ac9", func := "bucketline/bucketlinelaw5.EventPuts", spec := "eventPuts", inPlace := ["internal/abi.NoEscape"], apart := false }
def EventPutsSaid : Prop := eventPutsRow.holds Try.pinned (OpenSpec.ofChange eventPutsSpec)

/-- ITS FALSE NEIGHBOUR: 'it returns false'. Refute it at one input. -/
def eventPutsWrong : ChangeSpec := { name := "eventPuts", fn := fun _ => fun
  | [d1, d2] => { results := [.lit (.bool false)], args := [d1, d2] }
  | _ => none }
def EventPutsWrongFalsely : Prop := eventPutsRow.holds Try.pinned (OpenSpec.ofChange eventPutsWrong)

/-- 'bucketlinelaw5.EventBack': WHATEVER THE INPUT: true; the input reads as it did. -/
def eventBackSpec : ChangeSpec := { name := "eventBack", fn := fun _ => fun
  | [d1, d2, d3] => { results := [.lit (.bool true)], args := [d1, d2, d3] }
  | _ => none }
def eventBackRow : OpenClaim := { program := "ytjjefdfjmkbbiaa", sum := "f1d1a60a099b3386bab3c9df3f9ae0b383f57d3ff26d14742e93c00b99e01ac9", func := "bucketline/bucketlinelaw5.EventBack", spec := "eventBack", inPlace := ["internal/abi.NoEscape"], unfollowed := true, recurses := true, apart := false }
def EventBackSaid : Prop := eventBackRow.holds Try.pinned (OpenSpec.ofChange eventBackSpec)

/-- ITS FALSE NEIGHBOUR: 'it returns false'. Refute it at one input. -/
def eventBackWrong : ChangeSpec := { name := "eventBack", fn := fun _ => fun
  | [d1, d2, d3] => { results := [.lit (.bool false)], args := [d1, d2, d3] }
  | _ => none }
def EventBackWrongFalsely : Prop := eventBackRow.holds Try.pinned (OpenSpec.ofChange eventBackWrong)

/-- 'bucketlinelaw5.EventOnce': WHATEVER THE INPUT: true; the input reads as it did. -/
def eventOnceSpec : ChangeSpec := { name := "eventOnce", fn := fun _ => fun
  | [d] => { results := [.lit (.bool true)], args := [d] }
  | _ => none }
def eventOnceRow : OpenClaim := { program := "ytjjefdfjmkbbiaa", sum := "f1d1a60a099b3386bab3c9df3f9ae0b383f57d3ff26d14742e93c00b99e01ac9", func := "bucketline/bucketlinelaw5.EventOnce", spec := "eventOnce", inPlace := ["internal/abi.NoEscape"], unfollowed := true, recurses := true, apart := false }
def EventOnceSaid : Prop := eventOnceRow.holds Try.pinned (OpenSpec.ofChange eventOnceSpec)

/-- ITS FALSE NEIGHBOUR: 'it returns false'. Refute it at one input. -/
def eventOnceWrong : ChangeSpec := { name := "eventOnce", fn := fun _ => fun
  | [d] => { results := [.lit (.bool false)], args := [d] }
  | _ => none }
def EventOnceWrongFalsely : Prop := eventOnceRow.holds Try.pinned (OpenSpec.ofChange eventOnceWrong)

/-- 'bucketlinelaw5.EventSames': WHATEVER THE INPUT: true; the input reads as it did. -/
def eventSamesSpec : ChangeSpec := { name := "eventSames", fn := fun _ => fun
  | [d1, d2] => { results := [.lit (.bool true)], args := [d1, d2] }
  | _ => none }
def eventSamesRow : OpenClaim := { program := "ytjjefdfjmkbbiaa", sum := "f1d1a60a099b3386bab3c9df3f9ae0b383f57d3ff26d14742e93c00b99e01ac9", func := "bucketline/bucketlinelaw5.EventSames", spec := "eventSames", inPlace := ["internal/abi.NoEscape"], apart := false }
def EventSamesSaid : Prop := eventSamesRow.holds Try.pinned (OpenSpec.ofChange eventSamesSpec)

/-- ITS FALSE NEIGHBOUR: 'it returns false'. Refute it at one input. -/
def eventSamesWrong : ChangeSpec := { name := "eventSames", fn := fun _ => fun
  | [d1, d2] => { results := [.lit (.bool false)], args := [d1, d2] }
  | _ => none }
def EventSamesWrongFalsely : Prop := eventSamesRow.holds Try.pinned (OpenSpec.ofChange eventSamesWrong)

/-- 'bucketlinelaw5.EventFits': WHATEVER THE INPUT: true; the input reads as it did. -/
def eventFitsSpec : ChangeSpec := { name := "eventFits", fn := fun _ => fun
  | [d1, d2] => { results := [.lit (.bool true)], args := [d1, d2] }
  | _ => none }
def eventFitsRow : OpenClaim := { program := "ytjjefdfjmkbbiaa", sum := "f1d1a60a099b3386bab3c9df3f9ae0b383f57d3ff26d14742e93c00b99e01ac9", func := "bucketline/bucketlinelaw5.EventFits", spec := "eventFits", apart := false }
def EventFitsSaid : Prop := eventFitsRow.holds Try.pinned (OpenSpec.ofChange eventFitsSpec)

/-- ITS FALSE NEIGHBOUR: 'it returns false'. Refute it at one input. -/
def eventFitsWrong : ChangeSpec := { name := "eventFits", fn := fun _ => fun
  | [d1, d2] => { results := [.lit (.bool false)], args := [d1, d2] }
  | _ => none }
def EventFitsWrongFalsely : Prop := eventFitsRow.holds Try.pinned (OpenSpec.ofChange eventFitsWrong)

/-- 'bucketlinelaw5.EventRows': WHATEVER THE INPUT: true; the input reads as it did. -/
def eventRowsSpec : ChangeSpec := { name := "eventRows", fn := fun _ => fun
  | [d] => { results := [.lit (.bool true)], args := [d] }
  | _ => none }
def eventRowsRow : OpenClaim := { program := "ytjjefdfjmkbbiaa", sum := "f1d1a60a099b3386bab3c9df3f9ae0b383f57d3ff26d14742e93c00b99e01ac9", func := "bucketline/bucketlinelaw5.EventRows", spec := "eventRows", inPlace := ["internal/abi.NoEscape"], unfollowed := true, recurses := true, apart := false }
def EventRowsSaid : Prop := eventRowsRow.holds Try.pinned (OpenSpec.ofChange eventRowsSpec)

/-- ITS FALSE NEIGHBOUR: 'it returns false'. Refute it at one input. -/
def eventRowsWrong : ChangeSpec := { name := "eventRows", fn := fun _ => fun
  | [d] => { results := [.lit (.bool false)], args := [d] }
  | _ => none }
def EventRowsWrongFalsely : Prop := eventRowsRow.holds Try.pinned (OpenSpec.ofChange eventRowsWrong)

/- THE SECOND FORM. 'bulk': how many values and letters a reading holds, each counted each time it is reached (what is shared counts as often as it is met; a slice's spare places count too). A statement '..UptoSaid' is the law's where the arguments, and the package variables that the reading takes, are together of bulk at most 1048576: NARROWER than '..Said'. Prove '..Said' where nothing that the law and all that it calls make is longer than what came in: it says more and counts as full. Else prove '..UptoSaid'. A law counts once. -/
mutual
def uptoBulk {H : Type} : DataW H → Nat
  | .lit (.string bytes) => bytes.length + 1
  | .lit _ => 1
  | .nil => 1
  | .ptr d => uptoBulk d + 1
  | .slice elems spare => uptoBulkAll elems + uptoBulkAll spare + 1
  | .agg parts => uptoBulkAll parts + 1
  | .iface _ d => uptoBulk d + 1
  | .map entries => uptoBulkEntries entries + 1
  | .held _ => 1
def uptoBulkAll {H : Type} : List (DataW H) → Nat
  | [] => 0
  | d :: r => uptoBulk d + uptoBulkAll r
def uptoBulkEntries {H : Type} : List (Lit × DataW H) → Nat
  | [] => 0
  | x :: r => uptoBulkEntry x + uptoBulkEntries r
def uptoBulkEntry {H : Type} : Lit × DataW H → Nat
  | (.string bytes, d) => bytes.length + uptoBulk d + 1
  | (_, d) => uptoBulk d + 1
 end
def uptoSmall : (H : Type) → List (DataW H) → Bool := fun _ ds => decide (uptoBulkAll ds ≤ 1048576)
def OpenSpec.upto (s : _root_.Go.ChangeSpec) : _root_.Go.OpenSpec := { _root_.Go.OpenSpec.ofChange s with cond := some uptoSmall }

/-- 'bucketlinelaw5.EventPuts', WHERE WHAT IT READS IS OF BULK AT MOST 1048576: true; the input reads as it did. -/
def eventPutsUptoRow : OpenClaim := { program := "ytjjefdfjmkbbiaa", sum := "f1d1a60a099b3386bab3c9df3f9ae0b383f57d3ff26d14742e93c00b99e01ac9", func := "bucketline/bucketlinelaw5.EventPuts", spec := "eventPuts", inPlace := ["internal/abi.NoEscape"], apart := false, narrowed := true }
def EventPutsUptoSaid : Prop := eventPutsUptoRow.holds Try.pinned (OpenSpec.upto eventPutsSpec)

/-- 'bucketlinelaw5.EventBack', WHERE WHAT IT READS IS OF BULK AT MOST 1048576: true; the input reads as it did. -/
def eventBackUptoRow : OpenClaim := { program := "ytjjefdfjmkbbiaa", sum := "f1d1a60a099b3386bab3c9df3f9ae0b383f57d3ff26d14742e93c00b99e01ac9", func := "bucketline/bucketlinelaw5.EventBack", spec := "eventBack", inPlace := ["internal/abi.NoEscape"], unfollowed := true, recurses := true, apart := false, narrowed := true }
def EventBackUptoSaid : Prop := eventBackUptoRow.holds Try.pinned (OpenSpec.upto eventBackSpec)

/-- 'bucketlinelaw5.EventOnce', WHERE WHAT IT READS IS OF BULK AT MOST 1048576: true; the input reads as it did. -/
def eventOnceUptoRow : OpenClaim := { program := "ytjjefdfjmkbbiaa", sum := "f1d1a60a099b3386bab3c9df3f9ae0b383f57d3ff26d14742e93c00b99e01ac9", func := "bucketline/bucketlinelaw5.EventOnce", spec := "eventOnce", inPlace := ["internal/abi.NoEscape"], unfollowed := true, recurses := true, apart := false, narrowed := true }
def EventOnceUptoSaid : Prop := eventOnceUptoRow.holds Try.pinned (OpenSpec.upto eventOnceSpec)

/-- 'bucketlinelaw5.EventSames', WHERE WHAT IT READS IS OF BULK AT MOST 1048576: true; the input reads as it did. -/
def eventSamesUptoRow : OpenClaim := { program := "ytjjefdfjmkbbiaa", sum := "f1d1a60a099b3386bab3c9df3f9ae0b383f57d3ff26d14742e93c00b99e01ac9", func := "bucketline/bucketlinelaw5.EventSames", spec := "eventSames", inPlace := ["internal/abi.NoEscape"], apart := false, narrowed := true }
def EventSamesUptoSaid : Prop := eventSamesUptoRow.holds Try.pinned (OpenSpec.upto eventSamesSpec)

/-- 'bucketlinelaw5.EventFits', WHERE WHAT IT READS IS OF BULK AT MOST 1048576: true; the input reads as it did. -/
def eventFitsUptoRow : OpenClaim := { program := "ytjjefdfjmkbbiaa", sum := "f1d1a60a099b3386bab3c9df3f9ae0b383f57d3ff26d14742e93c00b99e01ac9", func := "bucketline/bucketlinelaw5.EventFits", spec := "eventFits", apart := false, narrowed := true }
def EventFitsUptoSaid : Prop := eventFitsUptoRow.holds Try.pinned (OpenSpec.upto eventFitsSpec)

/-- 'bucketlinelaw5.EventRows', WHERE WHAT IT READS IS OF BULK AT MOST 1048576: true; the input reads as it did. -/
def eventRowsUptoRow : OpenClaim := { program := "ytjjefdfjmkbbiaa", sum := "f1d1a60a099b3386bab3c9df3f9ae0b383f57d3ff26d14742e93c00b99e01ac9", func := "bucketline/bucketlinelaw5.EventRows", spec := "eventRows", inPlace := ["internal/abi.NoEscape"], unfollowed := true, recurses := true, apart := false, narrowed := true }
def EventRowsUptoSaid : Prop := eventRowsUptoRow.holds Try.pinned (OpenSpec.upto eventRowsSpec)

end Rows
end Go.Proofs.Ytjjefdfjmkbbiaa
