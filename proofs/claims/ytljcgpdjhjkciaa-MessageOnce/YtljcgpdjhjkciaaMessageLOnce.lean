/-
  Proved: for every text the law MessageOnce of package bucketlinelaw7 returns true, and its argument reads as before: what is taken is right, and put again it is the bytes that it was taken of. No condition.
-/
import Derived.Test.YtljcgpdjhjkciaaMsgKindOf
import Derived.Deep.RegionHeld3
import Derived.ProofKit
import Derived.OpenShut
import Derived.ShutString
namespace Go.Proofs.Ytljcgpdjhjkciaa
open Go.ChangeShapes Go.WideShapes Go.ChangeAt Go.RowKit
open Go.ChangeMaps (open_string shut_string)
attribute [local go_sem] ext_Bd ext_Bl ext_Bt toList_B add_B size_B get_Bt

theorem messageOnce_own : ownKnob Try.prog.godebug = none := by kernel_rfl

theorem kept_one (m : MV) (s : List UInt8) (h : M.takeMsg s = Sum.inl ⟨m.kind, m.parts⟩) : m.right = true ∧ m.bytes = s ∧ m.out = s ∧ 0 < s.length ∧ N.bt s 0 = m.kind := by
  obtain ⟨h1, h2, -, h4⟩ := M.take_is h
  have hb : m.bytes = s := h1.symm
  refine ⟨h2, hb, ?_, ?_, ?_⟩
  · unfold MV.out
    rw [if_pos (show m.right = true from h2)]
    exact hb
  · rw [h1]; unfold M.bytesM; simp
  · rw [h1]
    show (m.kind.toUInt8).toNat = m.kind
    have : m.kind ≤ 14 := by cases m <;> simp [MV.kind]
    simp
    omega

set_option maxHeartbeats 4000000 in
set_option maxRecDepth 100000 in
theorem messageOnce_l (s : List UInt8) (w : World) :
    Calls Try.prog 4 #[.string (B s)] w fun r w' => r = .returned (.bool true) ∧ Below w.heap.size w w' := by
  have hnn : ∀ (W : World) (u : TypeId) (v : Value), (binOp .neq 34 (.iface u v) .nilIface).run Try.prog W = .ok (.bool true) W := fun _ _ _ => by kernel_rfl
  have hin := is_nil
  by_cases hs : 6000 < s.length
  · have hsi : (6000 : Int) < (s.length : Int) := by omega
    go_enter Try.func4, Try.ntmps4
    go_wp2_with fail
    refine (shown7_l _).mono ?_
    rintro x w1 ⟨rfl, hb1⟩
    go_wp2
    go_ret
    exact ⟨rfl, hb1⟩
  have hsi : ¬ (6000 : Int) < (s.length : Int) := by omega
  rcases ho : M.takeMsg s with g | e
  · have HO := Lib.hid ho
    clear ho
    go_enter Try.func4, Try.ntmps4
    go_wp2_with fail
    refine (shown7_l _).mono ?_
    rintro x w1 ⟨rfl, hb1⟩
    go_wp2_with fail
    refine (MTake_at s _ _ (by omega) HO).mono ?_
    rintro x w2 ⟨hb2, m, rfl, hk, hp, hrd⟩
    have hb3 := hb1.trans (hb2.mono hb1.size)
    have hk1 := kept_one m s (by rw [HO.out, hk, hp])
    obtain ⟨u, z, kf, hv, hmeth, hcf, hkf⟩ := kind_of m w2 hrd
    have HRD := Lib.hid hrd
    have HKF := Lib.hid hkf
    have HR : Hid (∀ W, KeptB w2 W → Calls Try.prog 11 #[.iface u z] W fun x w' => x = .returned (.bool true) ∧ Below W.heap.size W w') := Lib.hid fun W h => by rw [← hv]; exact MRight_at m true W (MV.reads_below hrd h) (Lib.hid hk1.1)
    have HP : Hid (∀ W, KeptB w2 W → Calls Try.prog 10 #[.iface u z] W fun x w' => x = .returned (.string (B s)) ∧ Below W.heap.size W w') := Lib.hid fun W h => by rw [← hv]; exact MPut_at m s W (MV.reads_below hrd h) (Lib.hid hk1.2.2.1)
    have hpos := hk1.2.2.2.1
    have hbt := hk1.2.2.2.2
    have hpi : (0 : Int) < (s.length : Int) := by omega
    obtain ⟨kk, HKK⟩ : ∃ kk, Hid (m.kind = kk) := ⟨_, Lib.hid rfl⟩
    have hkk14 : kk ≤ 14 := by rw [← HKK.out]; cases m <;> simp [MV.kind]
    rw [HKK.out] at hbt HKF
    have hwr : IntKind.i64.wrap (kk : Int) = (kk : Int) := IntWalk.i64_in _ ⟨by omega, by omega⟩
    have hK2 : KeptB w2 w2 := Below.refl _ _
    have HB3 := Lib.hid hb3
    rw [hv]
    clear hrd hkf hv hk hp hk1 hb1 hb2 hb3 HO
    go_wp2
    go_region_held3 (fun w' => KeptB w2 w') (first | assumption | exact keptB_drew (by assumption) | exact keptB_call (by assumption) (by assumption))
      (first
        | (go_at_call 11; with_reducible refine (HR.out _ (by assumption)).mono ?_; rintro x w4 ⟨rfl, hb4⟩)
        | (go_at_call 10; with_reducible refine (HP.out _ (by assumption)).mono ?_; rintro x w5 ⟨rfl, hb5⟩)
        | (with_reducible refine (HKF.out _).mono ?_; rintro x w6 ⟨rfl, hb6⟩))
    all_goals
      rename_i hHeld
      have HB4 := Lib.hid (HB3.out.trans (Below.mono hHeld HB3.out.size))
      clear hHeld
      go_wp2
      go_ret
      exact ⟨rfl, HB4.out⟩
  · have HO := Lib.hid ho
    have hpos : 0 < e := take_errs ho
    obtain ⟨h1, h2⟩ := err_bd hpos
    clear ho
    go_enter Try.func4, Try.ntmps4
    go_wp2_with fail
    refine (shown7_l _).mono ?_
    rintro x w1 ⟨rfl, hb1⟩
    go_wp2_with fail
    refine (MTake_at s _ _ (by omega) HO).mono ?_
    rintro x w2 ⟨hb2, rfl⟩
    have hb3 := hb1.trans (hb2.mono hb1.size)
    go_wp2
    go_ret
    exact ⟨rfl, hb3⟩
theorem messageOnce_walk (s : ByteArray) (w : World) : Calls Try.prog 4 #[.string s] w fun r w' => r = .returned (.bool true) ∧ Below w.heap.size w w' := by
  have := messageOnce_l (L s) w
  rwa [B_L] at this

set_option maxRecDepth 100000 in
theorem messageOnce_lifted (os : Os) (started : os.Started) (H : Type) (enc : TypeId × Value → H) :
    ReturnsInHanded {} Try.checked os 4 .any (Rows.messageOnceSpec.pre6 enc Try.prog Try.f4 Rows.messageOnceRow.domain false) (Rows.messageOnceSpec.post enc Try.prog Try.f4 false true false false) := by
  refine returnsInHanded_of_change (C := Try.checked) messageOnce_own started (by kernel_rfl) Try.func4
    (ChangeSpec.witness6 (enc := enc) (C := Try.checked) false ⟨#[], #[.string ByteArray.empty], []⟩ 8 (by kernel_rfl) (by kernel_rfl) (by kernel_rfl) (by kernel_rfl)) ?_
  intro W base args ds gs before hval0 hW _ _
  have hval : ∀ (j : Nat) t v, Try.f4.params[j]? = some t → args[j]? = some v → Value.okWide Try.prog W .any base t v := hval0
  have hW' := hW
  obtain ⟨p, q, hA0, hV, rfl, hfz, hnd⟩ := hW
  have hA : DataW.TrodAll enc Try.prog W 0 (fun _ => true) true Try.f4.params.toList args.toList ds p := hA0
  rw [Try.params4] at hA hval
  obtain ⟨v0, vs0, d0, ds0, p0, q0, hargs, rfl, rfl, h0, r0⟩ := trodAll_cons hA
  obtain ⟨rfl, rfl, rfl⟩ := trodAll_nil r0
  obtain rfl : args = #[v0] := by cases args; simp_all
  obtain ⟨rfl, rfl⟩ := trodVars_none hV
  obtain ⟨a0, rfl, rfl, rfl, w0⟩ := open_string Try.underlying9 (hval 0 9 v0 rfl rfl) h0
  clear hA0 hval0
  simp only [List.append_nil] at hW'
  refine (messageOnce_walk a0 W).mono fun e W' ⟨he, bel⟩ => ?_
  subst he
  exact ⟨_, rfl, _, _, _, [], [], [], hW', trodAll_mk1 (shut_bool Try.underlying4 _), (trodAll_cons_mk (shut_string Try.underlying9 w0) trodAll_mk0), rfl, bel.frame _, fun h => by cases h⟩

theorem messageOnce_holds : Rows.MessageOnceSaid :=
  OpenClaim.holds_of_wide 4 Try.f4 rfl rfl rfl rfl rfl rfl rfl ⟨rfl, rfl, rfl, rfl, rfl⟩ rfl rfl rfl rfl rfl (by kernel_rfl) Try.func4 (by kernel_rfl)
    (of_decide_eq_true (by kernel_rfl)) (by unfold Func.isWrapper; first | (rw [if_pos (by decide +kernel)]; kernel_rfl) | (rw [if_neg (by decide +kernel)]; exact ⟨rfl, rfl⟩))
    (fun os started H enc _ => messageOnce_lifted os started H enc)
#print axioms messageOnce_holds

end Go.Proofs.Ytljcgpdjhjkciaa
