/-
  Proved: for every text the law FrameTakes of package bucketlinelaw4 returns true, and its argument reads as before: the payload that bytes begin with, what is behind, or what is wrong, and all payloads up to what is torn, are as the chapter says. No condition.
-/
import Derived.Test.YtdphmoldfglhmaaFrameShown
import Derived.Test.YtdphmoldfglhmaaFrameRef2
import Derived.Test.YtdphmoldfglhmaaFrameMore
import Derived.ProofKit
import Derived.OpenShut
import Derived.ShutString
namespace Go.Proofs.Ytdphmoldfglhmaa
open Go.ChangeShapes Go.WideShapes Go.ChangeAt Go.RowKit
open Go.ChangeMaps (open_string shut_string)
attribute [local go_sem] ext_Bd ext_Bl ext_Bt toList_B add_B size_B get_Bt

theorem frameTakes_own : ownKnob Try.prog.godebug = none := by kernel_rfl


def okCode (o : F.Tk) : List UInt8 × List UInt8 × Nat :=
  match o with
  | Sum.inl (p, r) => (p, r, 0)
  | Sum.inr e => ([], [], e)
theorem tkRes_three (o : F.Tk) : tkRes o = .tuple #[.string (B (okCode o).1), .string (B (okCode o).2.1), .int .i64 ((okCode o).2.2 : Nat)] := by
  rcases o with ⟨p, r⟩ | e <;> rfl

set_option maxHeartbeats 1000000 in
set_option maxRecDepth 100000 in
theorem frameTakes_l (s : List UInt8) (w : World) :
    Calls Try.prog 4 #[.string (B s)] w fun e w' => e = .returned (.bool true) ∧ Below w.heap.size w w' := by
  by_cases hs : 9000 < s.length
  · go_enter Try.func4, Try.ntmps4
    go_wp2_with fail
    refine (shown4_any w).mono ?_
    rintro e w1 ⟨rfl, hb1⟩
    go_wp2
    go_ret
    exact ⟨rfl, hb1⟩
  · obtain ⟨p, r, c, HT⟩ : ∃ p r c, Hid (tkRes (F.take s) = .tuple #[.string (B p), .string (B r), .int .i64 (c : Nat)]) := ⟨_, _, _, Lib.hid (tkRes_three _)⟩
    have hcnt : (F.scan s).1.length ≤ 1000000 := by
      have := F.scan_count s
      omega
    go_enter Try.func4, Try.ntmps4
    go_wp2_with fail
    refine (shown4_any w).mono ?_
    rintro e w1 ⟨rfl, hb1⟩
    go_wp2_with fail
    refine (chain (Take_at s _ w1 (by omega) HT) hb1).mono ?_
    rintro e w2 ⟨rfl, hb2⟩
    go_wp2_with fail
    refine (chain (refTake_at s _ w2 (by omega) HT) hb2).mono ?_
    rintro e w3 ⟨rfl, hb3⟩
    clear hb1 hb2
    go_wp2_with fail
    refine (Scan_l s w3 (by omega)).mono ?_
    rintro e w4 ⟨v, rfl, hown4, hb4⟩
    have hr4 := reads_own hown4
    have hbb4 := hb3.trans (hb4.mono hb3.size)
    clear hown4 hb4 hb3
    go_wp2_with fail
    refine (refScan_l s w4 (by omega)).mono ?_
    rintro e w5 ⟨v', rfl, hown5, hb5⟩
    have hr5 := reads_own hown5
    have hr4b := reads_below hr4 hb5
    have hbb5 := hbb4.trans (hb5.mono hbb4.size)
    clear hown5 hb5 hbb4 hr4
    generalize (F.scan s).2 = n at *
    generalize (F.scan s).1 = ps at *
    go_wp2_with fail
    refine (same_l ps ps v v' w5 hr4b hr5 hcnt).mono ?_
    rintro e w6 ⟨rfl, hq6⟩
    have hb6 := below_quiet hbb5 hq6
    clear hq6 hr4b hr5
    rw [decide_eq_true (rfl : ps = ps)]
    go_wp2
    go_ret
    exact ⟨rfl, hb6⟩
theorem frameTakes_walk (s : ByteArray) (w : World) :
    Calls Try.prog 4 #[.string s] w fun e w' => e = .returned (.bool true) ∧ Below w.heap.size w w' := by
  rw [← B_L s]
  exact frameTakes_l (L s) w

set_option maxRecDepth 100000 in
theorem frameTakes_lifted (os : Os) (started : os.Started) (H : Type) (enc : TypeId × Value → H) :
    ReturnsInHanded {} Try.checked os 4 .any (Rows.frameTakesSpec.pre6 enc Try.prog Try.f4 Rows.frameTakesRow.domain false) (Rows.frameTakesSpec.post enc Try.prog Try.f4 false true false false) := by
  refine returnsInHanded_of_change (C := Try.checked) frameTakes_own started (by kernel_rfl) Try.func4
    (ChangeSpec.witness6 (enc := enc) (C := Try.checked) false ⟨#[], #[.string ByteArray.empty], []⟩ 8 (by kernel_rfl) (by kernel_rfl) (by kernel_rfl) (by kernel_rfl)) ?_
  intro W base args ds gs before hval0 hW _ _
  have hval : ∀ (j : Nat) t v, Try.f4.params[j]? = some t → args[j]? = some v → Value.okWide Try.prog W .any base t v := hval0
  have hW' := hW
  obtain ⟨p, q, hA0, hV, rfl, hfz, hnd⟩ := hW
  have hA : DataW.TrodAll enc Try.prog W 0 (fun _ => true) true Try.f4.params.toList args.toList ds p := hA0
  rw [Try.params4] at hA hval
  obtain ⟨v0, vs0, d0, ds0, p0, q0, hargs, rfl, rfl, h0, r0⟩ := trodAll_cons hA
  obtain ⟨rfl, rfl, rfl⟩ := trodAll_nil r0
  obtain rfl : args = #[v0] := by cases args; simp_all
  obtain ⟨rfl, rfl⟩ := trodVars_none hV
  obtain ⟨a0, rfl, rfl, rfl, w0⟩ := open_string Try.underlying9 (hval 0 9 v0 rfl rfl) h0
  clear hA0 hval0
  simp only [List.append_nil] at hW'
  refine (frameTakes_walk a0 W).mono fun e W' ⟨he, bel⟩ => ?_
  subst he
  exact ⟨_, rfl, _, _, _, [], [], [], hW', trodAll_mk1 (shut_bool Try.underlying4 _), (trodAll_cons_mk (shut_string Try.underlying9 w0) trodAll_mk0), rfl, bel.frame _, fun h => by cases h⟩

theorem frameTakes_holds : Rows.FrameTakesSaid :=
  OpenClaim.holds_of_wide 4 Try.f4 rfl rfl rfl rfl rfl rfl rfl ⟨rfl, rfl, rfl, rfl, rfl⟩ rfl rfl rfl rfl rfl (by kernel_rfl) Try.func4 (by kernel_rfl)
    (of_decide_eq_true (by kernel_rfl)) (by unfold Func.isWrapper; first | (rw [if_pos (by decide +kernel)]; kernel_rfl) | (rw [if_neg (by decide +kernel)]; exact ⟨rfl, rfl⟩))
    (fun os started H enc _ => frameTakes_lifted os started H enc)
#print axioms frameTakes_holds

end Go.Proofs.Ytdphmoldfglhmaa
