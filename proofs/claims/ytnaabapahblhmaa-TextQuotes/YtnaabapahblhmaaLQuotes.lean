/-
  Proved: for every text the law TextQuotes of package bucketlinelaw1 returns true, and its argument reads as before: a text in quotes, and what is in quotes, or that it is wrong, are as the document's answer has them. No condition.
-/
import Derived.Test.YtnaabapahblhmaaR6
import Derived.ProofKit
import Derived.OpenShut
import Derived.ShutString
namespace Go.Proofs.Ytnaabapahblhmaa
open Go.ChangeShapes Go.WideShapes Go.ChangeAt Go.RowKit
open Go.ChangeMaps (open_string shut_string)
attribute [local go_sem] ext_Bd ext_Bl ext_Bt toList_B add_B size_B

theorem textQuotes_own : ownKnob Try.prog.godebug = none := by kernel_rfl

theorem unq_form (o : Option (List UInt8)) : ∃ (t : List UInt8) (c : Int), unqRes o = .tuple #[.string (B t), .int .i64 c] := by
  cases o with
  | none => exact ⟨_, _, rfl⟩
  | some t => exact ⟨_, _, rfl⟩

set_option maxHeartbeats 1000000 in
theorem textQuotes_small (l : List UInt8) (w : World) (hl : l.length ≤ 600) :
    Calls Try.prog 4 #[.string (B l)] w fun e w' => e = .returned (.bool true) ∧ Below w.heap.size w w' := by
  obtain ⟨t, c, hu⟩ := unq_form (unqL l)
  have HU := Lib.hid hu; clear hu
  go_enter Try.func4, Try.ntmps4
  go_wp2_with fail
  with_reducible refine (shown_any w).mono ?_
  rintro e w1 ⟨rfl, hb1⟩
  go_wp2_with fail
  with_reducible refine (chain (Unquote_l l _ (by omega)) hb1).mono ?_
  rintro e w2 ⟨rfl, hb2⟩
  rw [HU.out]
  clear hb1
  go_wp2_with fail
  with_reducible refine (chain (refUnquote_l l _ (by omega)) hb2).mono ?_
  rintro e w3 ⟨rfl, hb3⟩
  rw [HU.out]
  clear hb2
  go_wp2_with fail
  with_reducible refine (chain (Quote_l l _ (by omega)) hb3).mono ?_
  rintro e w4 ⟨rfl, hb4⟩
  clear hb3
  go_wp2_with fail
  with_reducible refine (refQuote_l l _ (by omega)).mono ?_
  rintro e w5 ⟨rfl, hq⟩
  have hb5 := below_quiet hb4 hq
  clear hb4 hq
  go_wp2
  go_ret
  exact ⟨rfl, hb5⟩

set_option maxHeartbeats 1000000 in
theorem textQuotes_big (l : List UInt8) (w : World) (h : 600 < l.length) :
    Calls Try.prog 4 #[.string (B l)] w fun e w' => e = .returned (.bool true) ∧ Below w.heap.size w w' := by
  go_enter Try.func4, Try.ntmps4
  go_wp2_with (go_at_call 11; refine (shown_any w).mono ?_; rintro e w1 ⟨rfl, hb1⟩)
  go_ret
  exact ⟨rfl, hb1⟩

theorem textQuotes_walk (a : ByteArray) (w : World) : Calls Try.prog 4 #[.string a] w fun e w' => e = .returned (.bool true) ∧ Below w.heap.size w w' := by
  rw [← B_L a]
  by_cases h : 600 < (L a).length
  · exact textQuotes_big _ w h
  · exact textQuotes_small _ w (by omega)

set_option maxRecDepth 100000 in
theorem textQuotes_lifted (os : Os) (started : os.Started) (H : Type) (enc : TypeId × Value → H) :
    ReturnsInHanded {} Try.checked os 4 .any (Rows.textQuotesSpec.pre6 enc Try.prog Try.f4 Rows.textQuotesRow.domain false) (Rows.textQuotesSpec.post enc Try.prog Try.f4 false true false false) := by
  refine returnsInHanded_of_change (C := Try.checked) textQuotes_own started (by kernel_rfl) Try.func4
    (ChangeSpec.witness6 (enc := enc) (C := Try.checked) false ⟨#[], #[.string ByteArray.empty], []⟩ 8 (by kernel_rfl) (by kernel_rfl) (by kernel_rfl) (by kernel_rfl)) ?_
  intro W base args ds gs before hval0 hW _ _
  have hval : ∀ (j : Nat) t v, Try.f4.params[j]? = some t → args[j]? = some v → Value.okWide Try.prog W .any base t v := hval0
  have hW' := hW
  obtain ⟨p, q, hA0, hV, rfl, hfz, hnd⟩ := hW
  have hA : DataW.TrodAll enc Try.prog W 0 (fun _ => true) true Try.f4.params.toList args.toList ds p := hA0
  rw [Try.params4] at hA hval
  obtain ⟨v0, vs0, d0, ds0, p0, q0, hargs, rfl, rfl, h0, r0⟩ := trodAll_cons hA
  obtain ⟨rfl, rfl, rfl⟩ := trodAll_nil r0
  obtain rfl : args = #[v0] := by cases args; simp_all
  obtain ⟨rfl, rfl⟩ := trodVars_none hV
  obtain ⟨a0, rfl, rfl, rfl, w0⟩ := open_string Try.underlying9 (hval 0 9 v0 rfl rfl) h0
  clear hA0 hval0
  simp only [List.append_nil] at hW'
  refine (textQuotes_walk a0 W).mono fun e W' ⟨he, bel⟩ => ?_
  subst he
  exact ⟨_, rfl, _, _, _, [], [], [], hW', trodAll_mk1 (shut_bool Try.underlying4 _), (trodAll_cons_mk (shut_string Try.underlying9 w0) trodAll_mk0), rfl, bel.frame _, fun h => by cases h⟩

theorem textQuotes_holds : Rows.TextQuotesSaid :=
  OpenClaim.holds_of_wide 4 Try.f4 rfl rfl rfl rfl rfl rfl rfl ⟨rfl, rfl, rfl, rfl, rfl⟩ rfl rfl rfl rfl rfl (by kernel_rfl) Try.func4 (by kernel_rfl)
    (of_decide_eq_true (by kernel_rfl)) (by unfold Func.isWrapper; first | (rw [if_pos (by decide +kernel)]; kernel_rfl) | (rw [if_neg (by decide +kernel)]; exact ⟨rfl, rfl⟩))
    (fun os started H enc _ => textQuotes_lifted os started H enc)
#print axioms textQuotes_holds
end Go.Proofs.Ytnaabapahblhmaa
