/-
  Proved: for every event and every batch the law EventPuts of package bucketlinelaw5 returns true, and its arguments read as before: whether an event is right, what is wrong with a batch, and their bytes, are as the chapter says. No condition.
-/
import Derived.Test.YtjjefdfjmkbbiaaEventHeld
import Derived.Deep.RegionHeld3
import Derived.ProofKit
import Derived.OpenShut
import Derived.ShutString
namespace Go.Proofs.Ytjjefdfjmkbbiaa
open Go.ChangeShapes Go.WideShapes Go.ChangeAt Go.RowKit
open Go.ChangeMaps (open_string shut_string)
attribute [local go_sem] ext_Bd ext_Bl ext_Bt toList_B add_B size_B get_Bt

theorem eventPuts_own : ownKnob Try.prog.godebug = none := by kernel_rfl
theorem eventPuts_laid : laidOutB Try.prog = true := by kernel_rfl


theorem light_small {b : E.Bat} (h : E.Light b) : E.Small b := ⟨by have := h.1; omega, by have := h.2.1; omega, fun e he => by have := h.2.2 e he; omega⟩

set_option maxHeartbeats 4000000 in
set_option maxRecDepth 100000 in
theorem eventPuts_walk (e : E.Ev) (b : E.Bat) (v : Value) (w : World) (hv : ReadsE w v b.events) :
    Calls Try.prog 3 #[evV e, batV b v] w fun r w' => r = .returned (.bool true) ∧ Below w.heap.size w w' := by
  obtain ⟨k, d⟩ := e
  obtain ⟨st, ex, se, sq, evs⟩ := b
  dsimp only at hv
  have HV := Lib.hid hv
  obtain ⟨a, cap, rfl, _, _, _⟩ := hv
  go_enter Try.func3, Try.ntmps3
  go_wp2_with fail
  refine (shown5_any _).mono ?_
  rintro x w1 ⟨rfl, hb1⟩
  have hS1 := EB_made w hb1
  clear hb1
  go_wp2_with fail
  refine (light_l ⟨st, ex, se, sq, evs⟩ _ w1 (readsE_below HV.out hS1.2.2.2.2.2.2.2)).mono ?_
  rintro x w2 ⟨hres, hb2⟩
  have hS := EB_call hS1 hb2
  clear hS1 hb2
  have hkb : Below w.heap.size w w2 := hS.2.2.2.2.2.2.2
  rcases hres with rfl | ⟨rfl, hlight⟩
  · go_wp2
    go_ret
    exact ⟨rfl, hkb⟩
  by_cases h3 : 300 < k.length
  · have h3i : (300 : Int) < k.length := by omega
    go_wp2
    go_ret
    exact ⟨rfl, hkb⟩
  have h3i : ¬ (300 : Int) < k.length := by omega
  by_cases h4 : 500 < d.length
  · have h4i : (500 : Int) < d.length := by omega
    go_wp2
    go_ret
    exact ⟨rfl, hkb⟩
  have h4i : ¬ (500 : Int) < d.length := by omega
  have hk1 : k.length ≤ 1000 := by omega
  have hd1 : d.length ≤ 1000 := by omega
  have HL := Lib.hid (light_small hlight)
  clear hlight h3 h4 hkb
  obtain ⟨c1, H1⟩ : ∃ c1, Hid (E.right (k, d) = c1) := ⟨_, Lib.hid rfl⟩
  obtain ⟨c2, H2⟩ : ∃ c2, Hid (E.putEv (k, d) = c2) := ⟨_, Lib.hid rfl⟩
  obtain ⟨c3, H3⟩ : ∃ c3, Hid (E.fits ⟨st, ex, se, sq, evs⟩ = c3) := ⟨_, Lib.hid rfl⟩
  obtain ⟨c4, H4⟩ : ∃ c4, Hid (E.putBat ⟨st, ex, se, sq, evs⟩ = c4) := ⟨_, Lib.hid rfl⟩
  go_wp2
  go_region_held3 (fun w' => EB w w.heap.size (w.heap.size + 1) k d st ex se sq (.slice a evs.length cap) w')
    (first | assumption | exact EB_drew (by assumption) | exact EB_call (by assumption) (by assumption))
    (first
      | (go_at_call 11; with_reducible refine (Right_at (k, d) c1 _ hk1 hd1 H1).mono ?_; rintro x w3 ⟨rfl, hb3⟩)
      | (go_at_call 12; with_reducible refine (refRight_k (k, d) c1 _ hk1 H1).mono ?_; rintro x w4 ⟨rfl, hb4⟩)
      | (go_at_call 13; with_reducible refine (EPut_at (k, d) c2 _ hk1 hd1 H2).mono ?_; rintro x w5 ⟨rfl, hb5⟩)
      | (go_at_call 14; with_reducible refine (refEPut_at (k, d) c2 _ hk1 hd1 H2).mono ?_; rintro x w6 ⟨rfl, hb6⟩)
      | (go_at_call 15; with_reducible refine (Fits_eb ⟨st, ex, se, sq, evs⟩ c3 (by assumption) HV HL H3).mono ?_; rintro x w7 ⟨rfl, hb7⟩)
      | (go_at_call 16; with_reducible refine (refFits_eb ⟨st, ex, se, sq, evs⟩ c3 (by assumption) HV HL H3).mono ?_; rintro x w8 ⟨rfl, hb8⟩)
      | (go_at_call 17; with_reducible refine (EPutBat_eb ⟨st, ex, se, sq, evs⟩ c4 (by assumption) HV HL H4).mono ?_; rintro x w9 ⟨rfl, hb9⟩)
      | (go_at_call 18; with_reducible refine (refPutBat_eb ⟨st, ex, se, sq, evs⟩ c4 (by assumption) HV HL H4).mono ?_; rintro x w10 ⟨rfl, hb10⟩))
  rename_i hHeld
  have HB := Lib.hid (EB_below hHeld)
  clear hHeld hS
  go_wp2
  go_ret
  exact ⟨rfl, HB.out⟩

set_option maxRecDepth 100000 in
theorem eventPuts_lifted (os : Os) (started : os.Started) (H : Type) (enc : TypeId × Value → H) :
    ReturnsInHanded {} Try.checked os 3 .any (Rows.eventPutsSpec.pre6 enc Try.prog Try.f3 Rows.eventPutsRow.domain false) (Rows.eventPutsSpec.post enc Try.prog Try.f3 false true false false) := by
  refine returnsInHanded_of_change (C := Try.checked) eventPuts_own started (by kernel_rfl) Try.func3
    (ChangeSpec.witness6 (enc := enc) (C := Try.checked) false ⟨#[], #[.agg #[.string ByteArray.empty, .string ByteArray.empty], .agg #[.string ByteArray.empty, .int .i64 0, .int .i64 0, .int .i64 0, .slice none 0 0]], []⟩ 8 (by kernel_rfl) (by kernel_rfl) (by kernel_rfl) (by kernel_rfl)) ?_
  intro W base args ds gs before hval0 hW _ _
  have hval : ∀ (j : Nat) t v, Try.f3.params[j]? = some t → args[j]? = some v → Value.okWide Try.prog W .any base t v := hval0
  have hW' := hW
  obtain ⟨p, q, hA0, hV, rfl, hfz, hnd⟩ := hW
  have hA : DataW.TrodAll enc Try.prog W 0 (fun _ => true) true Try.f3.params.toList args.toList ds p := hA0
  rw [Try.params3] at hA hval
  obtain ⟨v0, vs0, d0, ds0, p0, q0, hargs, rfl, rfl, h0, r0⟩ := trodAll_cons hA
  obtain ⟨v1, vs1, d1, ds1, p1, q1, rfl, rfl, rfl, h1, r1⟩ := trodAll_cons r0
  obtain ⟨rfl, rfl, rfl⟩ := trodAll_nil r1
  obtain rfl : args = #[v0, v1] := by cases args; simp_all
  obtain ⟨rfl, rfl⟩ := trodVars_none hV
  have k0 := h0
  have lt0 : ∀ x ∈ p0, x.block < W.heap.size := by obtain ⟨m, hm⟩ := k0; exact DataW.trod_lt m _ _ _ hm
  obtain ⟨e0, rfl⟩ := arg_event Try.underlying23 (by kernel_rfl) (by kernel_rfl) Try.underlying9 Try.underlying9 (hval 0 23 v0 rfl rfl) h0
  have k1 := h1
  have lt1 : ∀ x ∈ p1, x.block < W.heap.size := by obtain ⟨m, hm⟩ := k1; exact DataW.trod_lt m _ _ _ hm
  obtain ⟨b1, u1, rfl, w1, _⟩ := arg_batch Try.underlying26 (by kernel_rfl) (by kernel_rfl) Try.underlying9 Try.underlying3 Try.underlying3 Try.underlying3 rfl Try.underlying24 Try.underlying23 (by kernel_rfl) (by kernel_rfl) Try.underlying9 Try.underlying9 (hval 1 26 v1 rfl rfl) h1
  clear hA0 hval0
  refine (eventPuts_walk e0 b1 u1 W w1).mono fun e W' ⟨he, bel⟩ => ?_
  subst he
  exact ⟨_, rfl, _, _, _, [], _, [], hW', trodAll_mk1 (shut_bool Try.underlying4 _), (trodAll_cons_mk (Below.trod eventPuts_laid (by kernel_rfl) (of_decide_eq_true (by kernel_rfl)) k0 bel lt0) (trodAll_cons_mk (Below.trod eventPuts_laid (by kernel_rfl) (of_decide_eq_true (by kernel_rfl)) k1 bel lt1) trodAll_mk0)), rfl, bel.frame _, fun h => by cases h⟩

theorem eventPuts_holds : Rows.EventPutsSaid :=
  OpenClaim.holds_of_wide 3 Try.f3 rfl rfl rfl rfl rfl rfl rfl ⟨rfl, rfl, rfl, rfl, rfl⟩ rfl rfl rfl rfl rfl (by kernel_rfl) Try.func3 (by kernel_rfl)
    (of_decide_eq_true (by kernel_rfl)) (by unfold Func.isWrapper; first | (rw [if_pos (by decide +kernel)]; kernel_rfl) | (rw [if_neg (by decide +kernel)]; exact ⟨rfl, rfl⟩))
    (fun os started H enc _ => eventPuts_lifted os started H enc)
#print axioms eventPuts_holds

end Go.Proofs.Ytjjefdfjmkbbiaa
