/-
  Proved: RecordRows of bucketlinelaw6 is true for every argument: whether entries go on from a place, the marks of entries, and where two logs part, are as the chapter says.
-/
import Derived.Test.YtfhopgficckjkaaRecordShown
import Derived.Test.YtfhopgficckjkaaRecordFollows
import Derived.Test.YtfhopgficckjkaaRecordRef
import Derived.Test.YtfhopgficckjkaaRecordRefMarks
import Derived.Deep.RegionHeld3
import Derived.ProofKit
import Derived.OpenShut
import Derived.ShutString
namespace Go.Proofs.Ytfhopgficckjkaa
open Go.ChangeShapes Go.WideShapes Go.ChangeAt Go.RowKit
open Go.ChangeMaps (open_string shut_string)
attribute [local go_sem] ext_Bd ext_Bl ext_Bt toList_B add_B size_B get_Bt

theorem recordRows_own : ownKnob Try.prog.godebug = none := by kernel_rfl
theorem recordRows_laid : laidOutB Try.prog = true := by kernel_rfl


set_option maxHeartbeats 4000000 in
set_option maxRecDepth 100000 in
theorem recordRows_walk (es : List EV) (v : Value) (pos : Int) (hp : (Lit.int .i64 pos).wf = true) (epoch : Int) (_he : (Lit.int .i64 epoch).wf = true) (a : List R.Mk) (va : Value) (la : Int) (_hla : (Lit.int .i64 la).wf = true) (b : List R.Mk) (vb : Value) (lb : Int) (_hlb : (Lit.int .i64 lb).wf = true)
    (w : World) (hv : ReadsR w v es) (ha : ReadsM w va a) (hb : ReadsM w vb b) :
    Calls Try.prog 4 #[v, .int .i64 pos, .int .i64 epoch, va, .int .i64 la, vb, .int .i64 lb] w fun e w' => e = .returned (.bool true) ∧ Below w.heap.size w w' := by
  have HV := Lib.hid hv
  have HA := Lib.hid ha
  have HB := Lib.hid hb
  have HP : Hid (i64B pos) := Lib.hid (i64_bd hp)
  obtain ⟨av, cv, rfl, _⟩ := hv
  obtain ⟨aa, ca, rfl, _⟩ := ha
  obtain ⟨ab, cb, rfl, _⟩ := hb
  clear hp
  go_enter Try.func4, Try.ntmps4
  go_wp2_with fail
  refine (shown_l w).mono ?_
  rintro x w1 ⟨rfl, hb1⟩
  have HB1 := Lib.hid hb1; clear hb1
  go_wp2_with fail
  refine (small_l es _ w1 (readsR_below HV.out HB1.out)).mono ?_
  rintro x w2 ⟨hres, hb2⟩
  have HB2 := Lib.hid (HB1.out.trans (hb2.mono HB1.out.size)); clear hb2
  rcases hres with rfl | ⟨rfl, hlen, hlight⟩
  · go_wp2
    go_ret
    exact ⟨rfl, HB2.out⟩
  have HSM : Hid (∀ x ∈ es, E.Small x.1.b) := Lib.hid fun x hx => light_small (hlight x hx)
  clear hlight
  by_cases h1 : 30 < a.length
  · have h1i : (30 : Int) < (a.length : Int) := by omega
    go_wp2
    go_ret
    exact ⟨rfl, HB2.out⟩
  have h1i : ¬ (30 : Int) < (a.length : Int) := by omega
  by_cases h2 : 30 < b.length
  · have h2i : (30 : Int) < (b.length : Int) := by omega
    go_wp2
    go_ret
    exact ⟨rfl, HB2.out⟩
  have h2i : ¬ (30 : Int) < (b.length : Int) := by omega
  by_cases h3 : 3000 < la
  · go_wp2
    go_ret
    exact ⟨rfl, HB2.out⟩
  by_cases h4 : 3000 < lb
  · go_wp2
    go_ret
    exact ⟨rfl, HB2.out⟩
  obtain ⟨f, HF⟩ : ∃ f, Hid (R.follows (ensOf es) pos epoch = f) := ⟨_, Lib.hid rfl⟩
  obtain ⟨n, HN⟩ : ∃ n, Hid (R.fork a la b lb = n) := ⟨_, Lib.hid rfl⟩
  have c1 := Follows_l es _ pos epoch w2 (readsR_below HV.out HB2.out) (by omega) HSM.out HP.out
  rw [HF.out] at c1
  have C1 := Lib.hid c1; clear c1
  go_wp2_with fail
  refine C1.out.mono ?_
  rintro x w3 ⟨rfl, hb3⟩
  have HB3 := Lib.hid (HB2.out.trans (hb3.mono HB2.out.size)); clear hb3 C1
  have c2 := refFollows_l es _ pos epoch w3 (readsR_below HV.out HB3.out) (by omega) HSM.out HP.out
  rw [HF.out] at c2
  have C2 := Lib.hid c2; clear c2
  go_wp2_with fail
  refine C2.out.mono ?_
  rintro x w4 ⟨rfl, hb4⟩
  have HB4 := Lib.hid (HB3.out.trans (hb4.mono HB3.out.size)); clear hb4 C2
  have hff : (f == f) = true := by cases f <;> rfl
  go_wp2_with fail
  refine (Marks_l es _ w4 (readsR_below HV.out HB4.out) (by omega)).mono ?_
  rintro x w5 ⟨u1, rfl, hm1, hb5⟩
  have HM1 := Lib.hid hm1
  have HB5 := Lib.hid (HB4.out.trans (hb5.mono HB4.out.size)); clear hb5 hm1
  go_wp2_with fail
  refine (refMarks_l es _ w5 (readsR_below HV.out HB5.out) (by omega)).mono ?_
  rintro x w6 ⟨u2, rfl, hm2, hb6⟩
  have HM2 := Lib.hid hm2
  have HM3 := Lib.hid (readsM_below HM1.out hb6)
  have HB6 := Lib.hid (HB5.out.trans (hb6.mono HB5.out.size)); clear hb6 hm2
  have hml : (R.marks (ensOf es)).length ≤ 1000000 := by have := R.marks_len (ensOf es); rw [ensOf_len] at this; omega
  have c3 := sameMarks_l (R.marks (ensOf es)) (R.marks (ensOf es)) u1 u2 w6 HM3.out HM2.out hml hml
  rw [decide_eq_true (rfl : R.marks (ensOf es) = R.marks (ensOf es))] at c3
  have C3 := Lib.hid c3; clear c3
  go_wp2_with fail
  refine C3.out.mono ?_
  rintro x w7 ⟨rfl, hq7⟩
  have HB7 := Lib.hid (below_quiet HB6.out hq7); clear hq7 C3
  have c4 := Fork_l a b _ _ la lb w7 (readsM_below HA.out HB7.out) (readsM_below HB.out HB7.out) (by omega) (by omega) (by omega) (by omega)
  rw [HN.out] at c4
  have C4 := Lib.hid c4; clear c4
  go_wp2_with fail
  refine C4.out.mono ?_
  rintro x w8 ⟨rfl, hb8⟩
  have HB8 := Lib.hid (HB7.out.trans (hb8.mono HB7.out.size)); clear hb8 C4
  have c5 := refFork_l a b _ _ la lb w8 (readsM_below HA.out HB8.out) (readsM_below HB.out HB8.out) (by omega) (by omega) (by omega) (by omega)
  rw [HN.out] at c5
  have C5 := Lib.hid c5; clear c5
  go_wp2_with fail
  refine C5.out.mono ?_
  rintro x w9 ⟨rfl, rfl⟩
  clear C5
  go_wp2
  go_ret
  exact ⟨rfl, HB8.out⟩

set_option maxRecDepth 100000 in
theorem recordRows_lifted (os : Os) (started : os.Started) (H : Type) (enc : TypeId × Value → H) :
    ReturnsInHanded {} Try.checked os 4 .any (Rows.recordRowsSpec.pre6 enc Try.prog Try.f4 Rows.recordRowsRow.domain false) (Rows.recordRowsSpec.post enc Try.prog Try.f4 false true false false) := by
  refine returnsInHanded_of_change (C := Try.checked) recordRows_own started (by kernel_rfl) Try.func4
    (ChangeSpec.witness6 (enc := enc) (C := Try.checked) false ⟨#[], #[.slice none 0 0, .int .i64 0, .int .i64 0, .slice none 0 0, .int .i64 0, .slice none 0 0, .int .i64 0], []⟩ 8 (by kernel_rfl) (by kernel_rfl) (by kernel_rfl) (by kernel_rfl)) ?_
  intro W base args ds gs before hval0 hW _ _
  have hval : ∀ (j : Nat) t v, Try.f4.params[j]? = some t → args[j]? = some v → Value.okWide Try.prog W .any base t v := hval0
  have hW' := hW
  obtain ⟨p, q, hA0, hV, rfl, hfz, hnd⟩ := hW
  have hA : DataW.TrodAll enc Try.prog W 0 (fun _ => true) true Try.f4.params.toList args.toList ds p := hA0
  rw [Try.params4] at hA hval
  obtain ⟨v0, vs0, d0, ds0, p0, q0, hargs, rfl, rfl, h0, r0⟩ := trodAll_cons hA
  obtain ⟨v1, vs1, d1, ds1, p1, q1, rfl, rfl, rfl, h1, r1⟩ := trodAll_cons r0
  obtain ⟨v2, vs2, d2, ds2, p2, q2, rfl, rfl, rfl, h2, r2⟩ := trodAll_cons r1
  obtain ⟨v3, vs3, d3, ds3, p3, q3, rfl, rfl, rfl, h3, r3⟩ := trodAll_cons r2
  obtain ⟨v4, vs4, d4, ds4, p4, q4, rfl, rfl, rfl, h4, r4⟩ := trodAll_cons r3
  obtain ⟨v5, vs5, d5, ds5, p5, q5, rfl, rfl, rfl, h5, r5⟩ := trodAll_cons r4
  obtain ⟨v6, vs6, d6, ds6, p6, q6, rfl, rfl, rfl, h6, r6⟩ := trodAll_cons r5
  obtain ⟨rfl, rfl, rfl⟩ := trodAll_nil r6
  obtain rfl : args = #[v0, v1, v2, v3, v4, v5, v6] := by cases args; simp_all
  obtain ⟨rfl, rfl⟩ := trodVars_none hV
  have k0 := h0
  have lt0 : ∀ x ∈ p0, x.block < W.heap.size := by obtain ⟨m, hm⟩ := k0; exact DataW.trod_lt m _ _ _ hm
  obtain ⟨es0, w0⟩ := arg_entries Try.enTy Try.underlying27 (hval 0 27 v0 rfl rfl) h0
  obtain ⟨a1, rfl, rfl, rfl, w1⟩ := open_int Try.underlying3 (hval 1 3 v1 rfl rfl) h1
  obtain ⟨a2, rfl, rfl, rfl, w2⟩ := open_int Try.underlying3 (hval 2 3 v2 rfl rfl) h2
  have k3 := h3
  have lt3 : ∀ x ∈ p3, x.block < W.heap.size := by obtain ⟨m, hm⟩ := k3; exact DataW.trod_lt m _ _ _ hm
  obtain ⟨ms3, w3⟩ := arg_marks Try.underlying35 Try.underlying52 (by kernel_rfl) (by kernel_rfl) Try.underlying3 Try.underlying3 (hval 3 35 v3 rfl rfl) h3
  obtain ⟨a4, rfl, rfl, rfl, w4⟩ := open_int Try.underlying3 (hval 4 3 v4 rfl rfl) h4
  have k5 := h5
  have lt5 : ∀ x ∈ p5, x.block < W.heap.size := by obtain ⟨m, hm⟩ := k5; exact DataW.trod_lt m _ _ _ hm
  obtain ⟨ms5, w5⟩ := arg_marks Try.underlying35 Try.underlying52 (by kernel_rfl) (by kernel_rfl) Try.underlying3 Try.underlying3 (hval 5 35 v5 rfl rfl) h5
  obtain ⟨a6, rfl, rfl, rfl, w6⟩ := open_int Try.underlying3 (hval 6 3 v6 rfl rfl) h6
  clear hA0 hval0
  refine (recordRows_walk es0 _ a1 w1 a2 w2 ms3 _ a4 w4 ms5 _ a6 w6 W w0 w3 w5).mono fun e W' ⟨he, bel⟩ => ?_
  subst he
  exact ⟨_, rfl, _, _, _, [], _, [], hW', trodAll_mk1 (shut_bool Try.underlying4 _), (trodAll_cons_mk (Below.trod recordRows_laid (by kernel_rfl) (of_decide_eq_true (by kernel_rfl)) k0 bel lt0) (trodAll_cons_mk (shut_int Try.underlying3 w1) (trodAll_cons_mk (shut_int Try.underlying3 w2) (trodAll_cons_mk (Below.trod recordRows_laid (by kernel_rfl) (of_decide_eq_true (by kernel_rfl)) k3 bel lt3) (trodAll_cons_mk (shut_int Try.underlying3 w4) (trodAll_cons_mk (Below.trod recordRows_laid (by kernel_rfl) (of_decide_eq_true (by kernel_rfl)) k5 bel lt5) (trodAll_cons_mk (shut_int Try.underlying3 w6) trodAll_mk0))))))), rfl, bel.frame _, fun h => by cases h⟩

theorem recordRows_holds : Rows.RecordRowsSaid :=
  OpenClaim.holds_of_wide 4 Try.f4 rfl rfl rfl rfl rfl rfl rfl ⟨rfl, rfl, rfl, rfl, rfl⟩ rfl rfl rfl rfl rfl (by kernel_rfl) Try.func4 (by kernel_rfl)
    (of_decide_eq_true (by kernel_rfl)) (by unfold Func.isWrapper; first | (rw [if_pos (by decide +kernel)]; kernel_rfl) | (rw [if_neg (by decide +kernel)]; exact ⟨rfl, rfl⟩))
    (fun os started H enc _ => recordRows_lifted os started H enc)
#print axioms recordRows_holds

end Go.Proofs.Ytfhopgficckjkaa
