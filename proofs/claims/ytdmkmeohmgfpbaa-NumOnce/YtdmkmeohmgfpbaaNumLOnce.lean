/-
  Proved: for every text the law NumOnce of package bucketlinelaw2 returns true, and its argument reads as before: what is taken as a number, put again, is the bytes that it was taken of; with a byte less there is none. No condition.
-/
import Derived.Test.YtdmkmeohmgfpbaaNumShown
import Derived.Deep.RegionHeld3
import Derived.ProofKit
import Derived.OpenShut
import Derived.ShutString
namespace Go.Proofs.Ytdmkmeohmgfpbaa
open Go.ChangeShapes Go.WideShapes Go.ChangeAt Go.RowKit
open Go.ChangeMaps (open_string shut_string)
theorem ext_Ba (P r : List UInt8) : (B (P ++ r)).extract P.length (P.length + r.length) = B r := by rw [← List.length_append, ext_Bl]; simp
attribute [local go_sem] ext_Bd ext_Bl ext_Bt toList_B add_B size_B get_Bt ext_Ba

theorem numOnce_own : ownKnob Try.prog.godebug = none := by kernel_rfl

set_option maxHeartbeats 1000000 in
set_option maxRecDepth 100000 in
theorem numOnce_big (l : List UInt8) (w : World) (hl : 500 < l.length) :
    Calls Try.prog 5 #[.string (B l)] w fun e w' => e = .returned (.bool true) ∧ Below w.heap.size w w' := by
  go_enter Try.func5, Try.ntmps5
  go_wp2_with fail
  refine (shown2_any w).mono ?_
  rintro e w1 ⟨rfl, hb1⟩
  go_wp2
  go_ret
  exact ⟨rfl, hb1⟩

set_option maxHeartbeats 2000000 in
set_option maxRecDepth 100000 in
theorem numOnce_bad (l : List UInt8) (w : World) (hl : l.length ≤ 500) (e0 : Nat) (hT : Hid (N.takeL l = .bad e0)) (hne : ((e0 : Int) != 0) = true) :
    Calls Try.prog 5 #[.string (B l)] w fun e w' => e = .returned (.bool true) ∧ Below w.heap.size w w' := by
  go_enter Try.func5, Try.ntmps5
  go_wp2_with fail
  refine (shown2_any w).mono ?_
  rintro e w1 ⟨rfl, hb1⟩
  go_wp2_with fail
  refine (Take_l l _ (by omega)).mono ?_
  rintro e w2 ⟨rfl, hq⟩
  have hb2 := below_quiet hb1 hq
  rw [hT.out, tkRes_bad]
  go_wp2
  go_ret
  exact ⟨rfl, hb2⟩

set_option maxHeartbeats 2000000 in
set_option maxRecDepth 100000 in
theorem numOnce_ok (n : Nat) (P r : List UInt8) (w : World) (hP : Hid (N.putL n = P)) (hn : n ≤ 1099511627776) (h1 : 1 ≤ P.length) (h6 : P.length ≤ 6) (hl : P.length + r.length ≤ 500) :
    Calls Try.prog 5 #[.string (B (P ++ r))] w fun e w' => e = .returned (.bool true) ∧ Below w.heap.size w w' := by
  have HT := Lib.hid (show N.takeL (P ++ r) = .ok n r by rw [← hP.out]; exact N.take_put hn r)
  have HD := Lib.hid (show N.takeL ((P ++ r).take (P.length - 1)) = .bad 3 by
    rw [List.take_append_of_le_length (by omega), ← List.dropLast_eq_take, ← hP.out]; exact N.take_short hn)
  go_enter Try.func5, Try.ntmps5
  go_wp2_with fail
  refine (shown2_any w).mono ?_
  rintro e w1 ⟨rfl, hb1⟩
  go_wp2_with fail
  refine (Take_l (P ++ r) _ (by simp; omega)).mono ?_
  rintro e w2 ⟨rfl, hq⟩
  have hb2 := below_quiet hb1 hq
  rw [HT.out, tkRes_ok]
  clear hq hb1
  go_wp2_with fail
  refine (Take_l ((P ++ r).take (P.length - 1)) _ (by simp; omega)).mono ?_
  rintro e w3 ⟨rfl, hq⟩
  have hb3 := below_quiet hb2 hq
  rw [HD.out, tkRes_bad]
  clear hq hb2
  have hps : P.length ≤ (B (P ++ r)).size := by rw [size_B]; simp
  have hpi : (P.length : Int) ≤ (P.length : Int) + (r.length : Int) := by omega
  have hni : (n : Int) ≤ 1099511627776 := by omega
  go_wp2
  go_region_held3 (fun _ => True) (trivial) (first | (go_at_call 9; refine (Put_l n _ hn).mono ?_; rintro e w4 ⟨rfl, hb⟩; rw [hP.out]))
  have hb3d : Below w.heap.size w w3.drew := below_quiet hb3 ⟨1, rfl⟩
  have hb4 := hb3d.trans (hb.mono hb3d.size)
  go_wp2
  go_ret
  exact ⟨rfl, hb4⟩

theorem numOnce_walk (s : ByteArray) (w : World) : Calls Try.prog 5 #[.string s] w fun e w' => e = .returned (.bool true) ∧ Below w.heap.size w w' := by
  rw [← B_L s]
  by_cases h : 500 < (L s).length
  · exact numOnce_big _ w h
  · rcases N.takeL_cases (L s) with ⟨e, hT⟩ | ⟨n, r, hT⟩
    · exact numOnce_bad _ w (by omega) e (Lib.hid hT) (by have := takeL_bad 6 0 _ e hT; simp; omega)
    · have hi := N.take_inv hT
      have hl : (N.putL n).length + r.length = (L s).length := by rw [hi.1]; simp
      rw [hi.1]
      exact numOnce_ok n _ r w (Lib.hid rfl) hi.2 (N.putL_pos n) (N.putL_len6 hi.2) (by omega)

set_option maxRecDepth 100000 in
theorem numOnce_lifted (os : Os) (started : os.Started) (H : Type) (enc : TypeId × Value → H) :
    ReturnsInHanded {} Try.checked os 5 .any (Rows.numOnceSpec.pre6 enc Try.prog Try.f5 Rows.numOnceRow.domain false) (Rows.numOnceSpec.post enc Try.prog Try.f5 false true false false) := by
  refine returnsInHanded_of_change (C := Try.checked) numOnce_own started (by kernel_rfl) Try.func5
    (ChangeSpec.witness6 (enc := enc) (C := Try.checked) false ⟨#[], #[.string ByteArray.empty], []⟩ 8 (by kernel_rfl) (by kernel_rfl) (by kernel_rfl) (by kernel_rfl)) ?_
  intro W base args ds gs before hval0 hW _ _
  have hval : ∀ (j : Nat) t v, Try.f5.params[j]? = some t → args[j]? = some v → Value.okWide Try.prog W .any base t v := hval0
  have hW' := hW
  obtain ⟨p, q, hA0, hV, rfl, hfz, hnd⟩ := hW
  have hA : DataW.TrodAll enc Try.prog W 0 (fun _ => true) true Try.f5.params.toList args.toList ds p := hA0
  rw [Try.params5] at hA hval
  obtain ⟨v0, vs0, d0, ds0, p0, q0, hargs, rfl, rfl, h0, r0⟩ := trodAll_cons hA
  obtain ⟨rfl, rfl, rfl⟩ := trodAll_nil r0
  obtain rfl : args = #[v0] := by cases args; simp_all
  obtain ⟨rfl, rfl⟩ := trodVars_none hV
  obtain ⟨a0, rfl, rfl, rfl, w0⟩ := open_string Try.underlying9 (hval 0 9 v0 rfl rfl) h0
  clear hA0 hval0
  simp only [List.append_nil] at hW'
  refine (numOnce_walk a0 W).mono fun e W' ⟨he, bel⟩ => ?_
  subst he
  exact ⟨_, rfl, _, _, _, [], [], [], hW', trodAll_mk1 (shut_bool Try.underlying4 _), (trodAll_cons_mk (shut_string Try.underlying9 w0) trodAll_mk0), rfl, bel.frame _, fun h => by cases h⟩

theorem numOnce_holds : Rows.NumOnceSaid :=
  OpenClaim.holds_of_wide 5 Try.f5 rfl rfl rfl rfl rfl rfl rfl ⟨rfl, rfl, rfl, rfl, rfl⟩ rfl rfl rfl rfl rfl (by kernel_rfl) Try.func5 (by kernel_rfl)
    (of_decide_eq_true (by kernel_rfl)) (by unfold Func.isWrapper; first | (rw [if_pos (by decide +kernel)]; kernel_rfl) | (rw [if_neg (by decide +kernel)]; exact ⟨rfl, rfl⟩))
    (fun os started H enc _ => numOnce_lifted os started H enc)
#print axioms numOnce_holds
end Go.Proofs.Ytdmkmeohmgfpbaa
