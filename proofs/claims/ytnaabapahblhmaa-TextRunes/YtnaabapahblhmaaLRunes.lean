/-
  Proved: for every text the law TextRunes of package bucketlinelaw1 returns true, and its argument reads as before: the runes of a text, and whether it is a name, are as the document's answer has them. No condition.
-/
import Derived.Test.YtnaabapahblhmaaR2
import Derived.ProofKit
import Derived.OpenShut
import Derived.ShutString
namespace Go.Proofs.Ytnaabapahblhmaa
open Go.ChangeShapes Go.WideShapes Go.ChangeAt Go.RowKit
open Go.ChangeMaps (open_string shut_string)
attribute [local go_sem] ext_Bd ext_Bl ext_Bt toList_B add_B size_B

theorem textRunes_own : ownKnob Try.prog.godebug = none := by kernel_rfl

set_option maxHeartbeats 1000000 in
theorem textRunes_small (l : List UInt8) (w : World) (hl : l.length ≤ 600) :
    Calls Try.prog 3 #[.string (B l)] w fun e w' => e = .returned (.bool true) ∧ Below w.heap.size w w' := by
  have hnl := T.nums_len l
  go_enter Try.func3, Try.ntmps3
  go_wp2_with fail
  with_reducible refine (shown_any w).mono ?_
  rintro e w1 ⟨rfl, hb1⟩
  go_wp2_with fail
  with_reducible refine (Runes_l l _ (by omega)).mono ?_
  rintro e w2 ⟨va, rfl, hoa, hb2⟩
  have hbb2 := hb1.trans (hb2.mono hb1.size)
  clear hb1 hb2
  go_wp2_with fail
  with_reducible refine (refRunes_l l _ (by omega)).mono ?_
  rintro e w3 ⟨vb, rfl, hob, hb3⟩
  have hbb3 := hbb2.trans (hb3.mono hbb2.size)
  have hoa3 := own_below hoa hb3
  clear hbb2 hb3 hoa
  go_wp2_with fail
  refine (sameInts_l (T.nums l) (T.nums l) _ _ _ (reads_own hoa3) (reads_own hob) (by omega)).mono ?_
  rintro e w4 ⟨rfl, hq⟩
  have hbb4 := below_quiet hbb3 hq
  clear hbb3 hq hoa3 hob
  rw [decide_eq_true (rfl : T.nums l = T.nums l)]
  go_wp2_with fail
  with_reducible refine (chain (Name_l l _ (by omega)) hbb4).mono ?_
  rintro e w5 ⟨rfl, hbb5⟩
  clear hbb4
  go_wp2_with fail
  with_reducible refine (chain (refName_l l _ (by omega)) hbb5).mono ?_
  rintro e w6 ⟨rfl, hbb6⟩
  clear hbb5
  generalize nameL l = n
  cases n
  all_goals
    go_wp2
    go_ret
    exact ⟨rfl, hbb6⟩

set_option maxHeartbeats 1000000 in
theorem textRunes_big (l : List UInt8) (w : World) (h : 600 < l.length) :
    Calls Try.prog 3 #[.string (B l)] w fun e w' => e = .returned (.bool true) ∧ Below w.heap.size w w' := by
  go_enter Try.func3, Try.ntmps3
  go_wp2_with (go_at_call 11; refine (shown_any w).mono ?_; rintro e w1 ⟨rfl, hb1⟩)
  go_ret
  exact ⟨rfl, hb1⟩

theorem textRunes_walk (a : ByteArray) (w : World) : Calls Try.prog 3 #[.string a] w fun e w' => e = .returned (.bool true) ∧ Below w.heap.size w w' := by
  rw [← B_L a]
  by_cases h : 600 < (L a).length
  · exact textRunes_big _ w h
  · exact textRunes_small _ w (by omega)

set_option maxRecDepth 100000 in
theorem textRunes_lifted (os : Os) (started : os.Started) (H : Type) (enc : TypeId × Value → H) :
    ReturnsInHanded {} Try.checked os 3 .any (Rows.textRunesSpec.pre6 enc Try.prog Try.f3 Rows.textRunesRow.domain false) (Rows.textRunesSpec.post enc Try.prog Try.f3 false true false false) := by
  refine returnsInHanded_of_change (C := Try.checked) textRunes_own started (by kernel_rfl) Try.func3
    (ChangeSpec.witness6 (enc := enc) (C := Try.checked) false ⟨#[], #[.string ByteArray.empty], []⟩ 8 (by kernel_rfl) (by kernel_rfl) (by kernel_rfl) (by kernel_rfl)) ?_
  intro W base args ds gs before hval0 hW _ _
  have hval : ∀ (j : Nat) t v, Try.f3.params[j]? = some t → args[j]? = some v → Value.okWide Try.prog W .any base t v := hval0
  have hW' := hW
  obtain ⟨p, q, hA0, hV, rfl, hfz, hnd⟩ := hW
  have hA : DataW.TrodAll enc Try.prog W 0 (fun _ => true) true Try.f3.params.toList args.toList ds p := hA0
  rw [Try.params3] at hA hval
  obtain ⟨v0, vs0, d0, ds0, p0, q0, hargs, rfl, rfl, h0, r0⟩ := trodAll_cons hA
  obtain ⟨rfl, rfl, rfl⟩ := trodAll_nil r0
  obtain rfl : args = #[v0] := by cases args; simp_all
  obtain ⟨rfl, rfl⟩ := trodVars_none hV
  obtain ⟨a0, rfl, rfl, rfl, w0⟩ := open_string Try.underlying9 (hval 0 9 v0 rfl rfl) h0
  clear hA0 hval0
  simp only [List.append_nil] at hW'
  refine (textRunes_walk a0 W).mono fun e W' ⟨he, bel⟩ => ?_
  subst he
  exact ⟨_, rfl, _, _, _, [], [], [], hW', trodAll_mk1 (shut_bool Try.underlying4 _), (trodAll_cons_mk (shut_string Try.underlying9 w0) trodAll_mk0), rfl, bel.frame _, fun h => by cases h⟩

theorem textRunes_holds : Rows.TextRunesSaid :=
  OpenClaim.holds_of_wide 3 Try.f3 rfl rfl rfl rfl rfl rfl rfl ⟨rfl, rfl, rfl, rfl, rfl⟩ rfl rfl rfl rfl rfl (by kernel_rfl) Try.func3 (by kernel_rfl)
    (of_decide_eq_true (by kernel_rfl)) (by unfold Func.isWrapper; first | (rw [if_pos (by decide +kernel)]; kernel_rfl) | (rw [if_neg (by decide +kernel)]; exact ⟨rfl, rfl⟩))
    (fun os started H enc _ => textRunes_lifted os started H enc)
#print axioms textRunes_holds
end Go.Proofs.Ytnaabapahblhmaa
