/-
  Proved: for every number and every row of acts the law ManifestPlays of package bucketlinelaw10 returns true, and its arguments read as before: after any acts all errors, files, the manifest and the epoch are as the document's answer has them. No condition.
-/
import Derived.Test.YtmfhipjceeijmaaGreatBun27
import Derived.Test.YtmfhipjceeijmaaGreatBun10
import Derived.Test.YtmfhipjceeijmaaGreatBun23
import Derived.Deep.RegionHeld3
import Derived.ProofKit
import Derived.OpenShut
import Derived.ShutString
namespace Go.Proofs.YtmfhipjceeijmaaGreat
open Go.ChangeShapes Go.WideShapes Go.ChangeAt Go.RowKit
open Go.ChangeMaps (open_string shut_string)
attribute [local go_sem] ext_Bd ext_Bl ext_Bt toList_B add_B size_B get_Bt

theorem manifestPlays_own : ownKnob Tryz.prog.godebug = none := by kernel_rfl
theorem manifestPlays_laid : laidOutB Tryz.prog = true := by kernel_rfl

theorem manifestPlays_walk (room : Int) (hr : (Lit.int .i64 room).wf = true) (acs : List A.Ac) (vl : Value) (w : World) (hA : A.ReadsA w vl acs) :
    Calls Tryz.prog 3 #[.int .i64 room, vl] w fun x w' => x = .returned (.bool true) ∧ Below w.heap.size w w' := A.plays_walk D.landed room acs vl w (i64_bd hr) hA

set_option maxRecDepth 100000 in
theorem manifestPlays_lifted (os : Os) (started : os.Started) (H : Type) (enc : TypeId × Value → H) :
    ReturnsInHanded {} Tryz.checked os 3 .any (Rows.manifestPlaysSpec.pre6 enc Tryz.prog Tryz.f3 Rows.manifestPlaysRow.domain false) (Rows.manifestPlaysSpec.post enc Tryz.prog Tryz.f3 false true false false) := by
  refine returnsInHanded_of_change (C := Tryz.checked) manifestPlays_own started (by kernel_rfl) Tryz.func3
    (ChangeSpec.witness6 (enc := enc) (C := Tryz.checked) false ⟨#[], #[.int .i64 0, .slice none 0 0], []⟩ 8 (by kernel_rfl) (by kernel_rfl) (by kernel_rfl) (by kernel_rfl)) ?_
  intro W base args ds gs before hval0 hW _ _
  have hval : ∀ (j : Nat) t v, Tryz.f3.params[j]? = some t → args[j]? = some v → Value.okWide Tryz.prog W .any base t v := hval0
  have hW' := hW
  obtain ⟨p, q, hA0, hV, rfl, hfz, hnd⟩ := hW
  have hA : DataW.TrodAll enc Tryz.prog W 0 (fun _ => true) true Tryz.f3.params.toList args.toList ds p := hA0
  rw [Tryz.params3] at hA hval
  obtain ⟨v0, vs0, d0, ds0, p0, q0, hargs, rfl, rfl, h0, r0⟩ := trodAll_cons hA
  obtain ⟨v1, vs1, d1, ds1, p1, q1, rfl, rfl, rfl, h1, r1⟩ := trodAll_cons r0
  obtain ⟨rfl, rfl, rfl⟩ := trodAll_nil r1
  obtain rfl : args = #[v0, v1] := by cases args; simp_all
  obtain ⟨rfl, rfl⟩ := trodVars_none hV
  obtain ⟨a0, rfl, rfl, rfl, w0⟩ := open_int Tryz.underlying3 (hval 0 3 v0 rfl rfl) h0
  have k1 := h1
  have lt1 : ∀ x ∈ p1, x.block < W.heap.size := by obtain ⟨m, hm⟩ := k1; exact DataW.trod_lt m _ _ _ hm
  obtain ⟨acs1, w1⟩ := A.arg_acts Tryz.underlying22 Tryz.underlying35 (by kernel_rfl) (by kernel_rfl) Tryz.underlying3 Tryz.underlying3 rfl Tryz.underlying9 rfl Tryz.underlying33 Tryz.underlying3 (by kernel_rfl) (hval 1 22 v1 rfl rfl) h1
  clear hA0 hval0
  refine (manifestPlays_walk a0 w0 acs1 _ W w1).mono fun e W' ⟨he, bel⟩ => ?_
  subst he
  exact ⟨_, rfl, _, _, _, [], _, [], hW', trodAll_mk1 (shut_bool Tryz.underlying4 _), (trodAll_cons_mk (shut_int Tryz.underlying3 w0) (trodAll_cons_mk (Below.trod manifestPlays_laid (by kernel_rfl) (of_decide_eq_true (by kernel_rfl)) k1 bel lt1) trodAll_mk0)), rfl, bel.frame _, fun h => by cases h⟩

theorem manifestPlays_holds : Rows.ManifestPlaysSaid :=
  OpenClaim.holds_of_wide 3 Tryz.f3 rfl rfl rfl rfl rfl rfl rfl ⟨rfl, rfl, rfl, rfl, rfl⟩ rfl rfl rfl rfl rfl (by kernel_rfl) Tryz.func3 (by kernel_rfl)
    (of_decide_eq_true (by kernel_rfl)) (by unfold Func.isWrapper; first | (rw [if_pos (by decide +kernel)]; kernel_rfl) | (rw [if_neg (by decide +kernel)]; exact ⟨rfl, rfl⟩))
    (fun os started H enc _ => manifestPlays_lifted os started H enc)
#print axioms manifestPlays_holds

end Go.Proofs.YtmfhipjceeijmaaGreat
