/-
  Proved: for every text and every list of texts the law FramePuts of package bucketlinelaw4 returns true, and its arguments read as before: the frame of a payload, and of some, one behind the other, or what is wrong, is as the chapter says. No condition.
-/
import Derived.Test.YtdphmoldfglhmaaFrameShown
import Derived.Test.YtdphmoldfglhmaaFrameRef2
import Derived.ProofKit
import Derived.OpenShut
import Derived.ShutString
namespace Go.Proofs.Ytdphmoldfglhmaa
open Go.ChangeShapes Go.WideShapes Go.ChangeAt Go.RowKit
open Go.ChangeMaps (open_string shut_string)
attribute [local go_sem] ext_Bd ext_Bl ext_Bt toList_B add_B size_B get_Bt

theorem framePuts_own : ownKnob Try.prog.godebug = none := by kernel_rfl
theorem framePuts_laid : laidOutB Try.prog = true := by kernel_rfl


set_option maxHeartbeats 1000000 in
set_option maxRecDepth 100000 in
theorem framePuts_l (p : List UInt8) (ls : List (List UInt8)) (va : Value) (w : World) (ha : Reads w va (strCells ls)) :
    Calls Try.prog 3 #[.string (B p), va] w fun e w' => e = .returned (.bool true) ∧ Below w.heap.size w w' := by
  go_enter Try.func3, Try.ntmps3
  go_wp2_with fail
  refine (shown4_any w).mono ?_
  rintro e w1 ⟨rfl, hb1⟩
  have ha1 := reads_below ha hb1
  go_wp2_with fail
  refine (small_l ls va w1 ha1).mono ?_
  rintro e w2 ⟨hres, hq2⟩
  have hb2 := below_quiet hb1 hq2
  have ha2 := reads_below ha hb2
  clear hq2 hb1 ha1
  rcases hres with rfl | ⟨rfl, h30⟩
  · go_wp2
    go_ret
    exact ⟨rfl, hb2⟩
  · by_cases hp : 8500 < p.length
    · go_wp2
      go_ret
      exact ⟨rfl, hb2⟩
    · obtain ⟨s, HS⟩ : ∃ s, Hid (putS p = s) := ⟨_, Lib.hid rfl⟩
      obtain ⟨c, HC⟩ : ∃ c, Hid (F.code p = c) := ⟨_, Lib.hid rfl⟩
      obtain ⟨t, HT⟩ : ∃ t, Hid (rowS ls = t) := ⟨_, Lib.hid rfl⟩
      obtain ⟨d, HD⟩ : ∃ d, Hid (F.codes ls = d) := ⟨_, Lib.hid rfl⟩
      go_wp2_with fail
      refine (chain (Put_at p s c w2 HS HC) hb2).mono ?_
      rintro e w3 ⟨rfl, hb3⟩
      go_wp2_with fail
      refine (chain (refPut_at p s c w3 HS HC) hb3).mono ?_
      rintro e w4 ⟨rfl, hb4⟩
      go_wp2_with fail
      refine (chain (Row_at ls t d va w4 (reads_below ha hb4) (by omega) HT HD) hb4).mono ?_
      rintro e w5 ⟨rfl, hb5⟩
      go_wp2_with fail
      refine (chain (refRow_at ls t d va w5 (reads_below ha hb5) (by omega) HT HD) hb5).mono ?_
      rintro e w6 ⟨rfl, hb6⟩
      go_wp2
      go_ret
      exact ⟨rfl, hb6⟩
theorem framePuts_walk (s : ByteArray) (ls : List (List UInt8)) (va : Value) (w : World) (ha : Reads w va (strCells ls)) :
    Calls Try.prog 3 #[.string s, va] w fun e w' => e = .returned (.bool true) ∧ Below w.heap.size w w' := by
  rw [← B_L s]
  exact framePuts_l (L s) ls va w ha

set_option maxRecDepth 100000 in
theorem framePuts_lifted (os : Os) (started : os.Started) (H : Type) (enc : TypeId × Value → H) :
    ReturnsInHanded {} Try.checked os 3 .any (Rows.framePutsSpec.pre6 enc Try.prog Try.f3 Rows.framePutsRow.domain false) (Rows.framePutsSpec.post enc Try.prog Try.f3 false true false false) := by
  refine returnsInHanded_of_change (C := Try.checked) framePuts_own started (by kernel_rfl) Try.func3
    (ChangeSpec.witness6 (enc := enc) (C := Try.checked) false ⟨#[], #[.string ByteArray.empty, .slice none 0 0], []⟩ 8 (by kernel_rfl) (by kernel_rfl) (by kernel_rfl) (by kernel_rfl)) ?_
  intro W base args ds gs before hval0 hW _ _
  have hval : ∀ (j : Nat) t v, Try.f3.params[j]? = some t → args[j]? = some v → Value.okWide Try.prog W .any base t v := hval0
  have hW' := hW
  obtain ⟨p, q, hA0, hV, rfl, hfz, hnd⟩ := hW
  have hA : DataW.TrodAll enc Try.prog W 0 (fun _ => true) true Try.f3.params.toList args.toList ds p := hA0
  rw [Try.params3] at hA hval
  obtain ⟨v0, vs0, d0, ds0, p0, q0, hargs, rfl, rfl, h0, r0⟩ := trodAll_cons hA
  obtain ⟨v1, vs1, d1, ds1, p1, q1, rfl, rfl, rfl, h1, r1⟩ := trodAll_cons r0
  obtain ⟨rfl, rfl, rfl⟩ := trodAll_nil r1
  obtain rfl : args = #[v0, v1] := by cases args; simp_all
  obtain ⟨rfl, rfl⟩ := trodVars_none hV
  obtain ⟨a0, rfl, rfl, rfl, w0⟩ := open_string Try.underlying9 (hval 0 9 v0 rfl rfl) h0
  obtain ⟨a1, len1, cap1, rfl⟩ := okWide_slice Try.underlying22 (hval 1 22 v1 rfl rfl)
  have k1 := h1
  have lt1 : ∀ x ∈ p1, x.block < W.heap.size := by obtain ⟨m, hm⟩ := k1; exact DataW.trod_lt m _ _ _ hm
  obtain ⟨z1, w1⟩ : ∃ zs, Reads W (.slice a1 len1 cap1) (strCells zs) := by
    obtain ⟨fuel, hf⟩ := h1
    rcases open_strings Try.underlying22 Try.underlying9 (by kernel_rfl) hf with ⟨hcs, _⟩ | ⟨x, l, c, ss, hcs, _, hl, hm, hz, _, hcell, hwz⟩
    · simp [Value.cells] at hcs
      obtain ⟨rfl, rfl, rfl⟩ := hcs
      exact ⟨[], none, 0, rfl, fun i hi => by simp [strCells] at hi⟩
    · simp [Value.cells] at hcs
      obtain ⟨rfl, rfl, rfl⟩ := hcs
      exact ⟨_, reads_strings (by simp at hz; omega) hcell⟩
  clear hA0 hval0
  refine (framePuts_walk a0 z1 _ W w1).mono fun e W' ⟨he, bel⟩ => ?_
  subst he
  exact ⟨_, rfl, _, _, _, [], _, [], hW', trodAll_mk1 (shut_bool Try.underlying4 _), (trodAll_cons_mk (shut_string Try.underlying9 w0) (trodAll_cons_mk (Below.trod framePuts_laid (by kernel_rfl) (of_decide_eq_true (by kernel_rfl)) k1 bel lt1) trodAll_mk0)), rfl, bel.frame _, fun h => by cases h⟩

theorem framePuts_holds : Rows.FramePutsSaid :=
  OpenClaim.holds_of_wide 3 Try.f3 rfl rfl rfl rfl rfl rfl rfl ⟨rfl, rfl, rfl, rfl, rfl⟩ rfl rfl rfl rfl rfl (by kernel_rfl) Try.func3 (by kernel_rfl)
    (of_decide_eq_true (by kernel_rfl)) (by unfold Func.isWrapper; first | (rw [if_pos (by decide +kernel)]; kernel_rfl) | (rw [if_neg (by decide +kernel)]; exact ⟨rfl, rfl⟩))
    (fun os started H enc _ => framePuts_lifted os started H enc)
#print axioms framePuts_holds

end Go.Proofs.Ytdphmoldfglhmaa
