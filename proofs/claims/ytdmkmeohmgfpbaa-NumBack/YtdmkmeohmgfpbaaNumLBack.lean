/-
  Proved: for every number, every 32-bit number and every two texts the law NumBack of package bucketlinelaw2 returns true, and its arguments read as before: what was put is taken, with what stands behind it. No condition.
-/
import Derived.Test.YtdmkmeohmgfpbaaNumShown
import Derived.ProofKit
import Derived.OpenShut
import Derived.ShutString
namespace Go.Proofs.Ytdmkmeohmgfpbaa
open Go.ChangeShapes Go.WideShapes Go.ChangeAt Go.RowKit
open Go.ChangeMaps (open_string shut_string)
attribute [local go_sem] ext_Bd ext_Bl ext_Bt toList_B add_B size_B get_Bt

theorem numBack_own : ownKnob Try.prog.godebug = none := by kernel_rfl

set_option maxHeartbeats 1000000 in
set_option maxRecDepth 100000 in
theorem numBack_big (n : Int) (m : Nat) (l r : List UInt8) (w : World) (hl : 500 < l.length ∨ 500 < r.length) :
    Calls Try.prog 4 #[.int .i64 n, .int .u32 m, .string (B l), .string (B r)] w fun e w' => e = .returned (.bool true) ∧ Below w.heap.size w w' := by
  by_cases h : 500 < l.length
  · clear hl
    go_enter Try.func4, Try.ntmps4
    go_wp2_with fail
    refine (shown2_any w).mono ?_
    rintro e w1 ⟨rfl, hb1⟩
    go_wp2
    go_ret
    exact ⟨rfl, hb1⟩
  · have h2 : 500 < r.length := by omega
    clear hl
    go_enter Try.func4, Try.ntmps4
    go_wp2_with fail
    refine (shown2_any w).mono ?_
    rintro e w1 ⟨rfl, hb1⟩
    go_wp2
    go_ret
    exact ⟨rfl, hb1⟩

set_option maxHeartbeats 4000000 in
set_option maxRecDepth 100000 in
theorem numBack_small (n : Int) (m a0 : Nat) (b0 : Int) (l r : List UInt8) (w : World) (hm : m < 4294967296) (hl : l.length ≤ 500) (hr : r.length ≤ 500) (Ha : Hid (N.held n = a0)) (Hb : Hid (N.heldI n = b0)) :
    Calls Try.prog 4 #[.int .i64 n, .int .u32 m, .string (B l), .string (B r)] w fun e w' => e = .returned (.bool true) ∧ Below w.heap.size w w' := by
  have hz := N.zigN_le n
  have hp := N.putL_len6 (N.held_le n)
  have hq := N.putL_len6 (N.zigN_le n)
  have ht := N.putT_len (l := l) (by omega)
  have hf : (N.fixL m).length ≤ 4 := Nat.le_refl _
  go_enter Try.func4, Try.ntmps4
  go_wp2_with fail
  refine (shown2_any w).mono ?_
  rintro e w1 ⟨rfl, hb1⟩
  go_wp2_with fail
  refine (Put_any n _).mono ?_
  rintro e w2 ⟨rfl, hb⟩
  have hb2 := hb1.trans (hb.mono hb1.size)
  clear hb hb1
  go_wp2_with fail
  refine (Take_l (N.putL (N.held n) ++ r) _ (by simp; omega)).mono ?_
  rintro e w3 ⟨rfl, hb⟩
  have hb3 := below_quiet hb2 hb
  rw [N.take_put (N.held_le n), tkRes_ok, Ha.out]
  clear hb hb2
  generalize N.putL a0 = x
  go_wp2_with fail
  refine (PutInt_any n _).mono ?_
  rintro e w4 ⟨rfl, hb⟩
  have hb4 := hb3.trans (hb.mono hb3.size)
  clear hb hb3
  go_wp2_with fail
  refine (TakeInt_l (N.putL (N.zigN n) ++ r) _ (by simp; omega)).mono ?_
  rintro e w5 ⟨rfl, hb⟩
  have hb5 := below_quiet hb4 hb
  rw [N.take_put (N.zigN_le n), tiRes_ok, N.zag_zig, Hb.out]
  clear hb hb4
  generalize N.putL (N.zigN n) = y
  go_wp2_with fail
  refine (PutText_l l _ (by omega)).mono ?_
  rintro e w6 ⟨rfl, hb⟩
  have hb6 := hb5.trans (hb.mono hb5.size)
  clear hb hb5
  go_wp2_with fail
  refine (TakeText_l (N.putT l ++ r) l.length _ (by simp; omega)).mono ?_
  rintro e w7 ⟨rfl, hb⟩
  have hb7 := below_quiet hb6 hb
  rw [N.takeT_put (by omega) (by omega), ttRes_ok]
  clear hb hb6
  go_wp2_with fail
  refine (Fixed_l m _ hm).mono ?_
  rintro e w8 ⟨rfl, hb⟩
  have hb8 := hb7.trans (hb.mono hb7.size)
  clear hb hb7
  go_wp2_with fail
  refine (TakeFixed_l (N.fixL m ++ r) _ (by simp [N.fixL]; omega)).mono ?_
  rintro e w9 ⟨rfl, hb⟩
  have hb9 := below_quiet hb8 hb
  rw [txRes_ok (by simp [N.fixL]), (N.fix_back hm r).1, (N.fix_back hm r).2]
  clear hb hb8
  go_wp2_with fail
  refine (PutText_l l _ (by omega)).mono ?_
  rintro e w10 ⟨rfl, hb⟩
  have hb10 := hb9.trans (hb.mono hb9.size)
  clear hb hb9
  go_wp2_with fail
  refine (TakeText_l (N.putT l ++ r) ((l.length : Int) - 1) _ (by simp; omega)).mono ?_
  rintro e w11 ⟨rfl, hb⟩
  have hb11 := below_quiet hb10 hb
  rw [N.takeT_put_long (by omega) (by omega), ttRes_bad]
  clear hb hb10
  generalize N.putT l = z
  generalize N.fixL m = t
  clear hz hp hq ht hf
  rcases (by omega : n ≤ -549755813888 ∨ (-549755813888 < n ∧ n ≤ 0) ∨ (0 < n ∧ n ≤ 549755813888) ∨ (549755813888 < n ∧ n ≤ 1099511627776) ∨ 1099511627776 < n) with h | ⟨h, h'⟩ | ⟨h, h'⟩ | ⟨h, h'⟩ | h
  · obtain rfl : a0 = 0 := by have := Ha.out; unfold N.held at this; omega
    obtain rfl : b0 = -549755813888 := by have := Hb.out; unfold N.heldI at this; omega
    go_wp2
    go_ret
    exact ⟨rfl, hb11⟩
  · obtain rfl : a0 = 0 := by have := Ha.out; unfold N.held at this; omega
    obtain rfl : b0 = n := by have := Hb.out; unfold N.heldI at this; omega
    go_wp2
    go_ret
    exact ⟨rfl, hb11⟩
  · have hna : ((a0 : Int) == n) = true := by have := Ha.out; unfold N.held at this; simp; omega
    obtain rfl : b0 = n := by have := Hb.out; unfold N.heldI at this; omega
    go_wp2
    go_ret
    exact ⟨rfl, hb11⟩
  · have hna : ((a0 : Int) == n) = true := by have := Ha.out; unfold N.held at this; simp; omega
    obtain rfl : b0 = 549755813888 := by have := Hb.out; unfold N.heldI at this; omega
    go_wp2
    go_ret
    exact ⟨rfl, hb11⟩
  · obtain rfl : a0 = 1099511627776 := by have := Ha.out; unfold N.held at this; omega
    obtain rfl : b0 = 549755813888 := by have := Hb.out; unfold N.heldI at this; omega
    go_wp2
    go_ret
    exact ⟨rfl, hb11⟩

theorem numBack_walk (n : Int) (_ : (Lit.int .i64 n).wf = true) (z : Int) (hz : (Lit.int .u32 z).wf = true) (s t : ByteArray) (w : World) :
    Calls Try.prog 4 #[.int .i64 n, .int .u32 z, .string s, .string t] w fun e w' => e = .returned (.bool true) ∧ Below w.heap.size w w' := by
  obtain ⟨m, rfl, hm⟩ := u32_nat hz
  rw [← B_L s, ← B_L t]
  by_cases h : 500 < (L s).length ∨ 500 < (L t).length
  · exact numBack_big n m _ _ w h
  · exact numBack_small n m _ _ _ _ w hm (by omega) (by omega) (Lib.hid rfl) (Lib.hid rfl)

set_option maxRecDepth 100000 in
theorem numBack_lifted (os : Os) (started : os.Started) (H : Type) (enc : TypeId × Value → H) :
    ReturnsInHanded {} Try.checked os 4 .any (Rows.numBackSpec.pre6 enc Try.prog Try.f4 Rows.numBackRow.domain false) (Rows.numBackSpec.post enc Try.prog Try.f4 false true false false) := by
  refine returnsInHanded_of_change (C := Try.checked) numBack_own started (by kernel_rfl) Try.func4
    (ChangeSpec.witness6 (enc := enc) (C := Try.checked) false ⟨#[], #[.int .i64 0, .int .u32 0, .string ByteArray.empty, .string ByteArray.empty], []⟩ 8 (by kernel_rfl) (by kernel_rfl) (by kernel_rfl) (by kernel_rfl)) ?_
  intro W base args ds gs before hval0 hW _ _
  have hval : ∀ (j : Nat) t v, Try.f4.params[j]? = some t → args[j]? = some v → Value.okWide Try.prog W .any base t v := hval0
  have hW' := hW
  obtain ⟨p, q, hA0, hV, rfl, hfz, hnd⟩ := hW
  have hA : DataW.TrodAll enc Try.prog W 0 (fun _ => true) true Try.f4.params.toList args.toList ds p := hA0
  rw [Try.params4] at hA hval
  obtain ⟨v0, vs0, d0, ds0, p0, q0, hargs, rfl, rfl, h0, r0⟩ := trodAll_cons hA
  obtain ⟨v1, vs1, d1, ds1, p1, q1, rfl, rfl, rfl, h1, r1⟩ := trodAll_cons r0
  obtain ⟨v2, vs2, d2, ds2, p2, q2, rfl, rfl, rfl, h2, r2⟩ := trodAll_cons r1
  obtain ⟨v3, vs3, d3, ds3, p3, q3, rfl, rfl, rfl, h3, r3⟩ := trodAll_cons r2
  obtain ⟨rfl, rfl, rfl⟩ := trodAll_nil r3
  obtain rfl : args = #[v0, v1, v2, v3] := by cases args; simp_all
  obtain ⟨rfl, rfl⟩ := trodVars_none hV
  obtain ⟨a0, rfl, rfl, rfl, w0⟩ := open_int Try.underlying3 (hval 0 3 v0 rfl rfl) h0
  obtain ⟨a1, rfl, rfl, rfl, w1⟩ := open_int Try.underlying22 (hval 1 22 v1 rfl rfl) h1
  obtain ⟨a2, rfl, rfl, rfl, w2⟩ := open_string Try.underlying9 (hval 2 9 v2 rfl rfl) h2
  obtain ⟨a3, rfl, rfl, rfl, w3⟩ := open_string Try.underlying9 (hval 3 9 v3 rfl rfl) h3
  clear hA0 hval0
  simp only [List.append_nil] at hW'
  refine (numBack_walk a0 w0 a1 w1 a2 a3 W).mono fun e W' ⟨he, bel⟩ => ?_
  subst he
  exact ⟨_, rfl, _, _, _, [], [], [], hW', trodAll_mk1 (shut_bool Try.underlying4 _), (trodAll_cons_mk (shut_int Try.underlying3 w0) (trodAll_cons_mk (shut_int Try.underlying22 w1) (trodAll_cons_mk (shut_string Try.underlying9 w2) (trodAll_cons_mk (shut_string Try.underlying9 w3) trodAll_mk0)))), rfl, bel.frame _, fun h => by cases h⟩

theorem numBack_holds : Rows.NumBackSaid :=
  OpenClaim.holds_of_wide 4 Try.f4 rfl rfl rfl rfl rfl rfl rfl ⟨rfl, rfl, rfl, rfl, rfl⟩ rfl rfl rfl rfl rfl (by kernel_rfl) Try.func4 (by kernel_rfl)
    (of_decide_eq_true (by kernel_rfl)) (by unfold Func.isWrapper; first | (rw [if_pos (by decide +kernel)]; kernel_rfl) | (rw [if_neg (by decide +kernel)]; exact ⟨rfl, rfl⟩))
    (fun os started H enc _ => numBack_lifted os started H enc)
#print axioms numBack_holds
end Go.Proofs.Ytdmkmeohmgfpbaa
