/-
  Own texts, joined: SegTied
-/
import Derived.Test.YtmfhipjceeijmaaGreatDoorTie
import Derived.Test.YtmfhipjceeijmaaGreatDoorCards
import Derived.Test.YtmfhipjceeijmaaGreatDoorBun32
import Derived.LaidMore
import Derived.Stop.Joined
import Derived.Stop.LaidErr
import Derived.SevenTiedAt

/-
  What chapter 9's tied rows share: the listed variables, as the program's own text lays them.
-/
namespace Go.Proofs.YtmfhipjceeijmaaGreatDoor
open Go.ChangeShapes Go.WideShapes Go.RowKit

def laid5 : List (String × DataW Unit) := Rows.segmentPlaysRow.laid
set_option maxRecDepth 100000 in
theorem door_met (os : Os) (args : Array Value) : laidMetH Tryz.prog laid5 ((World.doorLaid Tryz.prog 62 os).forCall (fun _ _ => 0) ⟨#[], args, []⟩).memory :=
  laidMetH_of_parts3 (fuel := 8) (laidMet_of_run' 8 (by kernel_rfl) (by kernel_rfl)) (by kernel_rfl) (by kernel_rfl)
theorem star_err : "*" ++ "errors.errorString" = "*errors.errorString" := by decide
theorem pow10_data : (Rows.laid_internal_strconv_uint64pow10 : DataW Unit) = Lib.tabData .u64 Lib.pow10Tab := by kernel_rfl
set_option maxRecDepth 100000 in
theorem tabs_of {W : World} (h : laidMetH Tryz.prog laid5 W) : G.Tabs W := by
  rw [MakeChecks.laidMetH_plain _ _ _ (by kernel_rfl)] at h
  have h2 := laidMet.tail (laidMet.tail h)
  have h3 := laidMet.tail h2
  have h4 := laidMet.tail h3
  rw [pow10_data] at h2
  have e1 := Lib.tabIs_of_head (g := 2) (t := 209) (e := 181) (n := 20) (by kernel_rfl) (by kernel_rfl) Tryz.underlying209 Tryz.underlying181 (by kernel_rfl) (by kernel_rfl) h2
  have hrow : ∀ u, Tryz.prog.typeName? 3 u = some "*errors.errorString" → u = 213 := fun u h =>
    typeName_ptr_named (nm := "errors.errorString") (by rw [star_err]; kernel_rfl) (by kernel_rfl) (by decide) u (by rw [star_err]; exact h)
  obtain ⟨a3, s3, e3, _⟩ := laid_sentinel (g := 1) (ti := 96) (tp := 213) (te := 215) (ts := 9) h3 (by kernel_rfl) (by kernel_rfl) Tryz.underlying96 hrow Tryz.underlying213 Tryz.underlying215 rfl rfl Tryz.underlying9 (by kernel_rfl) (by kernel_rfl)
  obtain ⟨a4, s4, e4, _⟩ := laid_sentinel (g := 0) (ti := 96) (tp := 213) (te := 215) (ts := 9) h4 (by kernel_rfl) (by kernel_rfl) Tryz.underlying96 hrow Tryz.underlying213 Tryz.underlying215 rfl rfl Tryz.underlying9 (by kernel_rfl) (by kernel_rfl)
  exact ⟨e1, ⟨_, _, e4⟩, _, _, e3⟩
end Go.Proofs.YtmfhipjceeijmaaGreatDoor
