/-
  Proved: for every two texts the law TextOnce of package bucketlinelaw1 returns true, and its arguments read as before: a text has one quote alone, what is unquoted is told so again, two unlike texts have unlike quotes. No condition.
-/
import Derived.Test.YtnaabapahblhmaaW9
import Derived.Test.YtnaabapahblhmaaSpec5
import Derived.ProofKit
import Derived.OpenShut
import Derived.ShutString
namespace Go.Proofs.Ytnaabapahblhmaa
open Go.ChangeShapes Go.WideShapes Go.ChangeAt Go.RowKit
open Go.ChangeMaps (open_string shut_string)
attribute [local go_sem] ext_Bd ext_Bt toList_B

theorem textOnce_own : ownKnob Try.prog.godebug = none := by kernel_rfl

theorem mid_quote (l : List UInt8) : mid (T.quoteL l) = T.scan T.piece l := by
  simp [mid, T.quoteL]
theorem quote_inj {l m : List UInt8} (h : T.quoteL l = T.quoteL m) : l = m := by
  rw [← T.unesc_quote l, ← T.unesc_quote m, ← mid_quote, ← mid_quote, h]
theorem unq_some {l t : List UInt8} (h : unqL l = some t) : T.quoteL t = l := by
  unfold unqL at h
  split at h
  · cases h
  · split at h
    · rename_i e; simp at h; subst h; exact e
    · cases h

set_option maxHeartbeats 1000000 in
theorem textOnce_small (l m : List UInt8) (w : World) (hl : l.length ≤ 400) (hm : m.length ≤ 400) :
    Calls Try.prog 10 #[.string (B l), .string (B m)] w fun e w' => e = .returned (.bool true) ∧ Below w.heap.size w w' := by
  have hl2 : ¬ 400 < (B l).size := by rw [size_B]; omega
  have hm2 : ¬ 400 < (B m).size := by rw [size_B]; omega
  have hd : (T.quoteL l == T.quoteL m) = (l == m) := by
    rw [Bool.eq_iff_iff]; simp only [beq_iff_eq]; exact ⟨quote_inj, fun h => by rw [h]⟩
  have HD := Lib.hid hd; clear hd
  go_enter Try.func10, Try.ntmps10
  go_wp2_with fail
  refine (shown_any w).mono ?_
  rintro e w1 ⟨rfl, hb1⟩
  go_wp2_with fail
  refine (Unquote_l l w1 (by omega)).mono ?_
  rintro e w2 ⟨rfl, hb2⟩
  have hbb2 := hb1.trans (hb2.mono hb1.size)
  clear hb1 hb2
  cases hu : unqL l with
  | none =>
    rw [unqRes_none]
    clear hu
    go_wp2_with fail
    refine (Quote_l l w2 (by omega)).mono ?_
    rintro e w3 ⟨rfl, hb3⟩
    have hbb3 := hbb2.trans (hb3.mono hbb2.size)
    clear hbb2 hb3
    go_wp2_with fail
    refine (Quote_l m w3 (by omega)).mono ?_
    rintro e w4 ⟨rfl, hb4⟩
    have hbb4 := hbb3.trans (hb4.mono hbb3.size)
    clear hbb3 hb4
    go_wp2
    go_ret
    exact ⟨rfl, hbb4⟩
  | some t =>
    rw [unqRes_some]
    have htq : (T.quoteL t == l) = true := by simpa using unq_some hu
    have hq := unq_some hu
    have htl : t.length ≤ 4 * l.length := by
      unfold unqL at hu
      split at hu
      · cases hu
      · split at hu
        · simp at hu; subst hu
          have h1 := T.unescL_len (mid l)
          have h2 := mid_len l
          omega
        · cases hu
    have HQ := Lib.hid hq; clear hu hq
    go_wp2_with fail
    refine (Quote_l l w2 (by omega)).mono ?_
    rintro e w3 ⟨rfl, hb3⟩
    have hbb3 := hbb2.trans (hb3.mono hbb2.size)
    clear hbb2 hb3
    go_wp2_with fail
    refine (Quote_l m w3 (by omega)).mono ?_
    rintro e w4 ⟨rfl, hb4⟩
    have hbb4 := hbb3.trans (hb4.mono hbb3.size)
    clear hbb3 hb4
    go_wp2_with fail
    refine (Quote_l t w4 (by omega)).mono ?_
    rintro e w5 ⟨rfl, hb5⟩
    have hbb5 := hbb4.trans (hb5.mono hbb4.size)
    clear hbb4 hb5
    go_wp2
    go_ret
    exact ⟨rfl, hbb5⟩

set_option maxHeartbeats 1000000 in
theorem textOnce_big (l m : List UInt8) (w : World) (h : 400 < l.length ∨ 400 < m.length) :
    Calls Try.prog 10 #[.string (B l), .string (B m)] w fun e w' => e = .returned (.bool true) ∧ Below w.heap.size w w' := by
  by_cases h1 : 400 < l.length
  · have hl2 : 400 < (B l).size := by rw [size_B]; omega
    go_enter Try.func10, Try.ntmps10
    go_wp2_with (go_at_call 11; refine (shown_any w).mono ?_; rintro e w1 ⟨rfl, hb1⟩)
    go_ret
    exact ⟨rfl, hb1⟩
  · have hl2 : ¬ 400 < (B l).size := by rw [size_B]; omega
    have hm2 : 400 < (B m).size := by rw [size_B]; omega
    go_enter Try.func10, Try.ntmps10
    go_wp2_with (go_at_call 11; refine (shown_any w).mono ?_; rintro e w1 ⟨rfl, hb1⟩)
    go_ret
    exact ⟨rfl, hb1⟩

theorem textOnce_walk (a b : ByteArray) (w : World) : Calls Try.prog 10 #[.string a, .string b] w fun e w' => e = .returned (.bool true) ∧ Below w.heap.size w w' := by
  rw [← B_L a, ← B_L b]
  by_cases h : 400 < (L a).length ∨ 400 < (L b).length
  · exact textOnce_big _ _ w h
  · exact textOnce_small _ _ w (by omega) (by omega)

set_option maxRecDepth 100000 in
theorem textOnce_lifted (os : Os) (started : os.Started) (H : Type) (enc : TypeId × Value → H) :
    ReturnsInHanded {} Try.checked os 10 .any (Rows.textOnceSpec.pre6 enc Try.prog Try.f10 Rows.textOnceRow.domain false) (Rows.textOnceSpec.post enc Try.prog Try.f10 false true false false) := by
  refine returnsInHanded_of_change (C := Try.checked) textOnce_own started (by kernel_rfl) Try.func10
    (ChangeSpec.witness6 (enc := enc) (C := Try.checked) false ⟨#[], #[.string ByteArray.empty, .string ByteArray.empty], []⟩ 8 (by kernel_rfl) (by kernel_rfl) (by kernel_rfl) (by kernel_rfl)) ?_
  intro W base args ds gs before hval0 hW _ _
  have hval : ∀ (j : Nat) t v, Try.f10.params[j]? = some t → args[j]? = some v → Value.okWide Try.prog W .any base t v := hval0
  have hW' := hW
  obtain ⟨p, q, hA0, hV, rfl, hfz, hnd⟩ := hW
  have hA : DataW.TrodAll enc Try.prog W 0 (fun _ => true) true Try.f10.params.toList args.toList ds p := hA0
  rw [Try.params10] at hA hval
  obtain ⟨v0, vs0, d0, ds0, p0, q0, hargs, rfl, rfl, h0, r0⟩ := trodAll_cons hA
  obtain ⟨v1, vs1, d1, ds1, p1, q1, rfl, rfl, rfl, h1, r1⟩ := trodAll_cons r0
  obtain ⟨rfl, rfl, rfl⟩ := trodAll_nil r1
  obtain rfl : args = #[v0, v1] := by cases args; simp_all
  obtain ⟨rfl, rfl⟩ := trodVars_none hV
  obtain ⟨a0, rfl, rfl, rfl, w0⟩ := open_string Try.underlying9 (hval 0 9 v0 rfl rfl) h0
  obtain ⟨a1, rfl, rfl, rfl, w1⟩ := open_string Try.underlying9 (hval 1 9 v1 rfl rfl) h1
  clear hA0 hval0
  simp only [List.append_nil] at hW'
  refine (textOnce_walk a0 a1 W).mono fun e W' ⟨he, bel⟩ => ?_
  subst he
  exact ⟨_, rfl, _, _, _, [], [], [], hW', trodAll_mk1 (shut_bool Try.underlying4 _), (trodAll_cons_mk (shut_string Try.underlying9 w0) (trodAll_cons_mk (shut_string Try.underlying9 w1) trodAll_mk0)), rfl, bel.frame _, fun h => by cases h⟩

theorem textOnce_holds : Rows.TextOnceSaid :=
  OpenClaim.holds_of_wide 10 Try.f10 rfl rfl rfl rfl rfl rfl rfl ⟨rfl, rfl, rfl, rfl, rfl⟩ rfl rfl rfl rfl rfl (by kernel_rfl) Try.func10 (by kernel_rfl)
    (of_decide_eq_true (by kernel_rfl)) (by unfold Func.isWrapper; first | (rw [if_pos (by decide +kernel)]; kernel_rfl) | (rw [if_neg (by decide +kernel)]; exact ⟨rfl, rfl⟩))
    (fun os started H enc _ => textOnce_lifted os started H enc)
#print axioms textOnce_holds
end Go.Proofs.Ytnaabapahblhmaa
