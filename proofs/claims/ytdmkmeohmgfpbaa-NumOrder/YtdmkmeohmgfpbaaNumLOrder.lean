/-
  Proved: for every two numbers the law NumOrder of package bucketlinelaw2 returns true, and its arguments read as before: a number that needs more bytes is larger; two unlike numbers have unlike bytes, and none's are the beginning of the other's. No condition.
-/
import Derived.Test.YtdmkmeohmgfpbaaNumShown
import Derived.Deep.DeepCutAuto
import Derived.ProofKit
import Derived.OpenShut
import Derived.ShutString
namespace Go.Proofs.Ytdmkmeohmgfpbaa
open Go.ChangeShapes Go.WideShapes Go.ChangeAt Go.RowKit
open Go.ChangeMaps (open_string shut_string)
attribute [local go_sem] ext_Bd ext_Bl ext_Bt toList_B add_B size_B get_Bt

theorem numOrder_own : ownKnob Try.prog.godebug = none := by kernel_rfl

structure OrdAt (x y u v : List UInt8) (p q : Nat) (m n : Int) : Prop where
  eq : (x == y) = ((p : Int) == (q : Int))
  eqi : (u == v) = (m == n)
  len : x.length ≤ y.length ∨ q < p
  pre : x.length < y.length → (y.take x.length == x) = false
  pos : 1 ≤ x.length
  six : x.length ≤ 6
  six2 : y.length ≤ 6
theorem ord_at (a b : Int) : OrdAt (N.putL (N.held a)) (N.putL (N.held b)) (N.putL (N.zigN a)) (N.putL (N.zigN b)) (N.held a) (N.held b) (N.heldI a) (N.heldI b) := by
  have ha := N.held_le a
  have hb := N.held_le b
  have za := N.zigN_le a
  have zb := N.zigN_le b
  refine ⟨?_, ?_, ?_, ?_, N.putL_pos _, N.putL_len6 ha, N.putL_len6 hb⟩
  · rw [Bool.eq_iff_iff, beq_iff_eq, beq_iff_eq]
    exact ⟨fun h => by rw [N.put_inj ha hb h], fun h => by rw [Int.ofNat_inj.1 h]⟩
  · rw [Bool.eq_iff_iff, beq_iff_eq, beq_iff_eq, ← N.zigN_inj]
    exact ⟨fun h => N.put_inj za zb h, fun h => by rw [h]⟩
  · by_cases h : N.held a ≤ N.held b
    · exact .inl (N.putL_mono _ _ _ (Nat.le_refl _) h)
    · exact .inr (by omega)
  · intro hl
    rw [beq_eq_false_iff_ne]
    intro h
    have h2 : N.putL (N.held b) = N.putL (N.held a) ++ (N.putL (N.held b)).drop (N.putL (N.held a)).length := by
      conv => lhs; rw [← List.take_append_drop (N.putL (N.held a)).length (N.putL (N.held b)), h]
    have h3 := (N.put_prefix ha hb h2).1
    rw [h3] at hl; omega

set_option maxHeartbeats 4000000 in
set_option maxRecDepth 100000 in
theorem numOrder_at (a b : Int) (w : World) (x y u v : List UInt8) (p q : Nat) (m n : Int)
    (Hx : Hid (N.putL (N.held a) = x)) (Hy : Hid (N.putL (N.held b) = y)) (Hu : Hid (N.putL (N.zigN a) = u)) (Hv : Hid (N.putL (N.zigN b) = v))
    (Hp : Hid (N.held a = p)) (Hq : Hid (N.held b = q)) (Hm : Hid (N.heldI a = m)) (Hn : Hid (N.heldI b = n)) (HO : Hid (OrdAt x y u v p q m n)) :
    Calls Try.prog 6 #[.int .i64 a, .int .i64 b] w fun e w' => e = .returned (.bool true) ∧ Below w.heap.size w w' := by
  go_enter Try.func6, Try.ntmps6
  go_wp2_with fail
  refine (shown2_any w).mono ?_
  rintro e w1 ⟨rfl, hb1⟩
  go_wp2_with fail
  refine (Put_any a _).mono ?_
  rintro e w2 ⟨rfl, hb⟩
  have hb2 := hb1.trans (hb.mono hb1.size)
  rw [Hx.out]
  clear hb hb1
  go_wp2_with fail
  refine (Put_any b _).mono ?_
  rintro e w3 ⟨rfl, hb⟩
  have hb3 := hb2.trans (hb.mono hb2.size)
  rw [Hy.out]
  clear hb hb2
  go_upto_region 4 with (fail)
  go_cut [8] (fun s wx => s = .int .i64 p ∧ w3 = wx)
  case first =>
    rcases (by omega : a ≤ 0 ∨ (0 < a ∧ a ≤ 1099511627776) ∨ 1099511627776 < a) with h | ⟨h, h'⟩ | h
    all_goals
      go_wp2
      go_meet
      exact ⟨int_eq (by have := Hp.out; unfold N.held at this; omega), rfl⟩
  case rest =>
  obtain ⟨rfl, rfl⟩ := hcut
  go_upto_region 5 with (fail)
  go_cut [9] (fun s wx => s = .int .i64 q ∧ w3 = wx)
  case first =>
    rcases (by omega : b ≤ 0 ∨ (0 < b ∧ b ≤ 1099511627776) ∨ 1099511627776 < b) with h | ⟨h, h'⟩ | h
    all_goals
      go_wp2
      go_meet
      exact ⟨int_eq (by have := Hq.out; unfold N.held at this; omega), rfl⟩
  case rest =>
  obtain ⟨rfl, rfl⟩ := hcut
  have hpos := HO.out.pos
  have hsix := HO.out.six
  have hsix2 := HO.out.six2
  go_upto_region 6 with (fail)
  go_cut [10] (fun s wx => s = .bool false ∧ w3 = wx)
  case first =>
    by_cases hl : x.length < y.length
    · have hpre := HO.out.pre hl
      have hle : x.length ≤ (B y).size := by rw [size_B]; omega
      go_wp2
      go_meet
      exact ⟨rfl, rfl⟩
    · have hl2 : decide ((x.length : Int) < (y.length : Int)) = false := by simp; omega
      go_wp2
      go_meet
      exact ⟨rfl, rfl⟩
  case rest =>
  obtain ⟨rfl, rfl⟩ := hcut
  go_wp2_with fail
  refine (PutInt_any a _).mono ?_
  rintro e w4 ⟨rfl, hb⟩
  have hb4 := hb3.trans (hb.mono hb3.size)
  rw [Hu.out]
  clear hb hb3
  go_wp2_with fail
  refine (PutInt_any b _).mono ?_
  rintro e w5 ⟨rfl, hb⟩
  have hb5 := hb4.trans (hb.mono hb4.size)
  rw [Hv.out]
  clear hb hb4
  go_upto_region 9 with (fail)
  go_cut [13] (fun s wx => s = .int .i64 m ∧ w5 = wx)
  case first =>
    rcases (by omega : a ≤ -549755813888 ∨ (-549755813888 < a ∧ a ≤ 549755813888) ∨ 549755813888 < a) with h | ⟨h, h'⟩ | h
    all_goals
      go_wp2
      go_meet
      exact ⟨int_eq (by have := Hm.out; unfold N.heldI at this; omega), rfl⟩
  case rest =>
  obtain ⟨rfl, rfl⟩ := hcut
  go_upto_region 10 with (fail)
  go_cut [14] (fun s wx => s = .int .i64 n ∧ w5 = wx)
  case first =>
    rcases (by omega : b ≤ -549755813888 ∨ (-549755813888 < b ∧ b ≤ 549755813888) ∨ 549755813888 < b) with h | ⟨h, h'⟩ | h
    all_goals
      go_wp2
      go_meet
      exact ⟨int_eq (by have := Hn.out; unfold N.heldI at this; omega), rfl⟩
  case rest =>
  obtain ⟨rfl, rfl⟩ := hcut
  obtain ⟨c, hc⟩ : ∃ c, (x == y) = c := ⟨_, rfl⟩
  obtain ⟨d, hd⟩ : ∃ d, (u == v) = d := ⟨_, rfl⟩
  have hc2 : ((p : Int) == (q : Int)) = c := by rw [← HO.out.eq]; exact hc
  have hd2 : (m == n) = d := by rw [← HO.out.eqi]; exact hd
  have hlen := HO.out.len
  by_cases hl : x.length ≤ y.length
  · clear hlen
    go_wp2
    go_ret
    exact ⟨ret_bool (by simp; omega), hb5⟩
  · have hlt : q < p := by omega
    have hl2 : decide ((x.length : Int) ≤ (y.length : Int)) = false := by simp; omega
    have hlt2 : decide ((q : Int) < (p : Int)) = true := by simp; omega
    clear hlen
    go_wp2
    go_ret
    exact ⟨ret_bool (by simp; omega), hb5⟩

theorem numOrder_walk (a : Int) (_ : (Lit.int .i64 a).wf = true) (b : Int) (_ : (Lit.int .i64 b).wf = true) (w : World) :
    Calls Try.prog 6 #[.int .i64 a, .int .i64 b] w fun e w' => e = .returned (.bool true) ∧ Below w.heap.size w w' :=
  numOrder_at a b w _ _ _ _ _ _ _ _ (Lib.hid rfl) (Lib.hid rfl) (Lib.hid rfl) (Lib.hid rfl) (Lib.hid rfl) (Lib.hid rfl) (Lib.hid rfl) (Lib.hid rfl) (Lib.hid (ord_at a b))

set_option maxRecDepth 100000 in
theorem numOrder_lifted (os : Os) (started : os.Started) (H : Type) (enc : TypeId × Value → H) :
    ReturnsInHanded {} Try.checked os 6 .any (Rows.numOrderSpec.pre6 enc Try.prog Try.f6 Rows.numOrderRow.domain false) (Rows.numOrderSpec.post enc Try.prog Try.f6 false true false false) := by
  refine returnsInHanded_of_change (C := Try.checked) numOrder_own started (by kernel_rfl) Try.func6
    (ChangeSpec.witness6 (enc := enc) (C := Try.checked) false ⟨#[], #[.int .i64 0, .int .i64 0], []⟩ 8 (by kernel_rfl) (by kernel_rfl) (by kernel_rfl) (by kernel_rfl)) ?_
  intro W base args ds gs before hval0 hW _ _
  have hval : ∀ (j : Nat) t v, Try.f6.params[j]? = some t → args[j]? = some v → Value.okWide Try.prog W .any base t v := hval0
  have hW' := hW
  obtain ⟨p, q, hA0, hV, rfl, hfz, hnd⟩ := hW
  have hA : DataW.TrodAll enc Try.prog W 0 (fun _ => true) true Try.f6.params.toList args.toList ds p := hA0
  rw [Try.params6] at hA hval
  obtain ⟨v0, vs0, d0, ds0, p0, q0, hargs, rfl, rfl, h0, r0⟩ := trodAll_cons hA
  obtain ⟨v1, vs1, d1, ds1, p1, q1, rfl, rfl, rfl, h1, r1⟩ := trodAll_cons r0
  obtain ⟨rfl, rfl, rfl⟩ := trodAll_nil r1
  obtain rfl : args = #[v0, v1] := by cases args; simp_all
  obtain ⟨rfl, rfl⟩ := trodVars_none hV
  obtain ⟨a0, rfl, rfl, rfl, w0⟩ := open_int Try.underlying3 (hval 0 3 v0 rfl rfl) h0
  obtain ⟨a1, rfl, rfl, rfl, w1⟩ := open_int Try.underlying3 (hval 1 3 v1 rfl rfl) h1
  clear hA0 hval0
  simp only [List.append_nil] at hW'
  refine (numOrder_walk a0 w0 a1 w1 W).mono fun e W' ⟨he, bel⟩ => ?_
  subst he
  exact ⟨_, rfl, _, _, _, [], [], [], hW', trodAll_mk1 (shut_bool Try.underlying4 _), (trodAll_cons_mk (shut_int Try.underlying3 w0) (trodAll_cons_mk (shut_int Try.underlying3 w1) trodAll_mk0)), rfl, bel.frame _, fun h => by cases h⟩

theorem numOrder_holds : Rows.NumOrderSaid :=
  OpenClaim.holds_of_wide 6 Try.f6 rfl rfl rfl rfl rfl rfl rfl ⟨rfl, rfl, rfl, rfl, rfl⟩ rfl rfl rfl rfl rfl (by kernel_rfl) Try.func6 (by kernel_rfl)
    (of_decide_eq_true (by kernel_rfl)) (by unfold Func.isWrapper; first | (rw [if_pos (by decide +kernel)]; kernel_rfl) | (rw [if_neg (by decide +kernel)]; exact ⟨rfl, rfl⟩))
    (fun os started H enc _ => numOrder_lifted os started H enc)
#print axioms numOrder_holds
end Go.Proofs.Ytdmkmeohmgfpbaa
