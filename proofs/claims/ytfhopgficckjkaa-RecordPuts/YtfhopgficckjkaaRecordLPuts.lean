/-
  Proved: RecordPuts of bucketlinelaw6 is true for every argument: whether an entry is right, whether two are the same, and their bytes, are as the chapter says.
-/
import Derived.Test.YtfhopgficckjkaaRecordShown
import Derived.Test.YtfhopgficckjkaaRecordPutRow
import Derived.Test.YtfhopgficckjkaaRecordSame2
import Derived.Deep.RegionHeld3
import Derived.ProofKit
import Derived.OpenShut
import Derived.ShutString
namespace Go.Proofs.Ytfhopgficckjkaa
open Go.ChangeShapes Go.WideShapes Go.ChangeAt Go.RowKit
open Go.ChangeMaps (open_string shut_string)
attribute [local go_sem] ext_Bd ext_Bl ext_Bt toList_B add_B size_B get_Bt

theorem recordPuts_own : ownKnob Try.prog.godebug = none := by kernel_rfl
theorem recordPuts_laid : laidOutB Try.prog = true := by kernel_rfl


/-- An entry in a box and one in a row, as calls leave them. -/
abbrev XX (w0 : World) (g : Nat) (p1 e1 : Int) (s1 : List UInt8) (x1 y1 z1 : Int) (v1 : Value) (h o : Nat) (p2 e2 : Int) (s2 : List UInt8) (x2 y2 z2 : Int) (v2 : Value) (a : World) : Prop :=
  a.cell? ⟨g, 0, none⟩ = some (.int .i64 p1) ∧ a.cell? ⟨g, 1, none⟩ = some (.int .i64 e1) ∧ a.cell? ⟨g, 2, none⟩ = some (.string (B s1)) ∧ a.cell? ⟨g, 3, none⟩ = some (.int .i64 x1) ∧ a.cell? ⟨g, 4, none⟩ = some (.int .i64 y1) ∧ a.cell? ⟨g, 5, none⟩ = some (.int .i64 z1) ∧ a.cell? ⟨g, 6, none⟩ = some v1 ∧
  a.cell? ⟨h, o, none⟩ = some (.int .i64 p2) ∧ a.cell? ⟨h, o + 1, none⟩ = some (.int .i64 e2) ∧ a.cell? ⟨h, o + 2, none⟩ = some (.string (B s2)) ∧ a.cell? ⟨h, o + 3, none⟩ = some (.int .i64 x2) ∧ a.cell? ⟨h, o + 4, none⟩ = some (.int .i64 y2) ∧ a.cell? ⟨h, o + 5, none⟩ = some (.int .i64 z2) ∧ a.cell? ⟨h, o + 6, none⟩ = some v2 ∧ KeptB w0 a
section
variable {w0 : World} {g h o : Nat} {p1 e1 p2 e2 : Int} {s1 s2 : List UInt8} {x1 y1 z1 x2 y2 z2 : Int} {v1 v2 : Value} {a b : World}
theorem XX_drew (hs : XX w0 g p1 e1 s1 x1 y1 z1 v1 h o p2 e2 s2 x2 y2 z2 v2 a) : XX w0 g p1 e1 s1 x1 y1 z1 v1 h o p2 e2 s2 x2 y2 z2 v2 a.drew := by
  obtain ⟨h0, h1, h2, h3, h4, h5, h6, q0, q1, q2, q3, q4, q5, q6, hk⟩ := hs
  exact ⟨h0, h1, h2, h3, h4, h5, h6, q0, q1, q2, q3, q4, q5, q6, keptB_drew hk⟩
theorem XX_call (hs : XX w0 g p1 e1 s1 x1 y1 z1 v1 h o p2 e2 s2 x2 y2 z2 v2 a) (hb : Below a.heap.size a b) : XX w0 g p1 e1 s1 x1 y1 z1 v1 h o p2 e2 s2 x2 y2 z2 v2 b := by
  obtain ⟨h0, h1, h2, h3, h4, h5, h6, q0, q1, q2, q3, q4, q5, q6, hk⟩ := hs
  have key := below_keeps hb
  exact ⟨key _ _ h0, key _ _ h1, key _ _ h2, key _ _ h3, key _ _ h4, key _ _ h5, key _ _ h6, key _ _ q0, key _ _ q1, key _ _ q2, key _ _ q3, key _ _ q4, key _ _ q5, key _ _ q6, keptB_call hk hb⟩
theorem XX_bel (hs : XX w0 g p1 e1 s1 x1 y1 z1 v1 h o p2 e2 s2 x2 y2 z2 v2 a) : Below w0.heap.size w0 a := hs.2.2.2.2.2.2.2.2.2.2.2.2.2.2
end

set_option maxHeartbeats 8000000 in
set_option maxRecDepth 100000 in
theorem recordPuts_walk (e : R.En) (v : Value) (es : List EV) (vl : Value) (w : World) (hv : ReadsE w v e.b.events) (_hp : i64B e.pos) (hl : ReadsR w vl es) :
    Calls Try.prog 3 #[enV e v, vl] w fun e w' => e = .returned (.bool true) ∧ Below w.heap.size w w' := by
  have HV := Lib.hid hv
  have HL := Lib.hid hl
  obtain ⟨a, cap, rfl, _⟩ := hv
  obtain ⟨al, cl, rfl, _⟩ := hl
  obtain ⟨pos, ep, ⟨st, ex, se, sq, evs⟩⟩ := e
  dsimp only at HV ⊢
  go_enter Try.func3, Try.ntmps3
  go_wp2_with fail
  have hS0 : X7 w w.heap.size pos ep st ex se sq (.slice a evs.length cap) (w.alloc (.cells #[.int .i64 pos, .int .i64 ep, .string (B st), .int .i64 ex, .int .i64 se, .int .i64 sq, .slice a evs.length cap] 26)) := X7_box (Below.refl _ _)
  generalize w.alloc (.cells #[.int .i64 pos, .int .i64 ep, .string (B st), .int .i64 ex, .int .i64 se, .int .i64 sq, .slice a evs.length cap] 26) = w0 at *
  have HS0 := Lib.hid hS0; clear hS0
  refine (shown_l w0).mono ?_
  rintro x w1 ⟨rfl, hb1⟩
  have HS1 := Lib.hid (X7_call HS0.out hb1); clear hb1 HS0
  go_wp2_with fail
  refine (small_l es _ w1 (readsR_below HL.out (X7_bel HS1.out))).mono ?_
  rintro x w2 ⟨hres, hb2⟩
  have HS2 := Lib.hid (X7_call HS1.out hb2); clear hb2 HS1
  have hS2 := HS2.out
  obtain ⟨c0, c1, c2, c3, c4, c5, c6, -⟩ := hS2
  rcases hres with rfl | ⟨rfl, hlen, hlight⟩
  · go_wp2_with fail
    refine (light_l ⟨pos, ep, ⟨st, ex, se, sq, evs⟩⟩ _ w2 (readsE_below HV.out (X7_bel HS2.out))).mono ?_
    rintro x w3 ⟨hres3, hb3⟩
    have HS3 := Lib.hid (X7_call HS2.out hb3); clear hb3 HS2 c0 c1 c2 c3 c4 c5 c6
    have HB3 := Lib.hid (X7_bel HS3.out)
    rcases hres3 with rfl | ⟨rfl, -⟩
    · go_wp2
      go_ret
      exact ⟨rfl, HB3.out⟩
    · go_wp2
      go_ret
      exact ⟨rfl, HB3.out⟩
  go_wp2_with fail
  refine (light_l ⟨pos, ep, ⟨st, ex, se, sq, evs⟩⟩ _ w2 (readsE_below HV.out (X7_bel HS2.out))).mono ?_
  rintro x w3 ⟨hres3, hb3⟩
  have HS3 := Lib.hid (X7_call HS2.out hb3); clear hb3 HS2 c0 c1 c2 c3 c4 c5 c6
  have HB3 := Lib.hid (X7_bel HS3.out)
  rcases hres3 with rfl | ⟨rfl, hli⟩
  · go_wp2
    go_ret
    exact ⟨rfl, HB3.out⟩
  have HSM : Hid (∀ x ∈ es, E.Small x.1.b) := Lib.hid fun x hx => light_small (hlight x hx)
  have HSE : Hid (E.Small ⟨st, ex, se, sq, evs⟩) := Lib.hid (light_small hli)
  clear hlight hli HB3
  go_wp2
  go_loopw [8] (fun i wr => ∃ k : Nat, i = .int .i64 k ∧ k ≤ es.length ∧ X7 w w.heap.size pos ep st ex se sq (.slice a evs.length cap) wr) (fun i _ => es.length - (intOf i).toNat)
  case atStart => exact ⟨0, rfl, Nat.zero_le _, HS3.out⟩
  case round =>
    obtain ⟨k, rfl, hk, hst⟩ := hrel
    have HST := Lib.hid hst
    clear HS3
    by_cases hlt : k < es.length
    · obtain ⟨a2, c2', hve, _, _, hx⟩ := readsR_below HL.out (X7_bel hst)
      cases hve
      obtain ⟨hre, -, b1, o1, rfl, h7⟩ := hx k hlt
      have hk1 : (k : Int) < (es.length : Int) := by omega
      obtain ⟨aq, cq, _, _, _, hx0⟩ := HL.out
      have HRE := Lib.hid (hx0 k hlt).1
      have HSK := Lib.hid (HSM.out _ (List.getElem_mem hlt))
      clear hx hx0
      generalize es[k] = pe at hre h7 HSK HRE
      obtain ⟨⟨pos2, ep2, ⟨st2, ex2, se2, sq2, evs2⟩⟩, u⟩ := pe
      dsimp only at hre h7 HSK HRE
      obtain ⟨a3, c3', rfl, _⟩ := hre
      obtain ⟨q, HQ⟩ : ∃ q, Hid (R.same ⟨pos, ep, ⟨st, ex, se, sq, evs⟩⟩ ⟨pos2, ep2, ⟨st2, ex2, se2, sq2, evs2⟩⟩ = q) := ⟨_, Lib.hid rfl⟩
      have hXX : XX w w.heap.size pos ep st ex se sq (.slice a evs.length cap) b1 (o1 + k * 7) pos2 ep2 st2 ex2 se2 sq2 (.slice a3 evs2.length c3') wr := by
        obtain ⟨h0, h1, h2, h3, h4, h5, h6, hk⟩ := hst
        obtain ⟨q0, q1, q2, q3, q4, q5, q6⟩ := h7
        exact ⟨h0, h1, h2, h3, h4, h5, h6, q0, q1, q2, q3, q4, q5, q6, hk⟩
      have hqq : (q != q) = false := by cases q <;> rfl
      clear hst h7 HST
      go_wp2
      go_region_held3 (fun w' => XX w w.heap.size pos ep st ex se sq (.slice a evs.length cap) b1 (o1 + k * 7) pos2 ep2 st2 ex2 se2 sq2 (.slice a3 evs2.length c3') w')
        (first | assumption | exact XX_drew (by assumption) | exact XX_call (by assumption) (by assumption))
        (first
          | (go_at_call 12; with_reducible refine (Same6_at ⟨pos, ep, ⟨st, ex, se, sq, evs⟩⟩ ⟨pos2, ep2, ⟨st2, ex2, se2, sq2, evs2⟩⟩ _ _ q _ (readsE_below HV.out (XX_bel (by assumption))) (readsE_below HRE.out (XX_bel (by assumption))) HSE.out HSK.out HQ).mono ?_; rintro x w4 ⟨rfl, hb4⟩)
          | (go_at_call 13; with_reducible refine (refSame_at ⟨pos, ep, ⟨st, ex, se, sq, evs⟩⟩ ⟨pos2, ep2, ⟨st2, ex2, se2, sq2, evs2⟩⟩ _ _ q _ (readsE_below HV.out (XX_bel (by assumption))) (readsE_below HRE.out (XX_bel (by assumption))) HSE.out HQ).mono ?_; rintro x w5 ⟨rfl, hb5⟩)
          | fail)
      rename_i hHeld
      have HH : Hid (∃ w', w' = w') := Lib.hid ⟨w, rfl⟩
      obtain ⟨h0, h1, h2, h3, h4, h5, h6, q0, q1, q2, q3, q4, q5, q6, hkb⟩ := hHeld
      have HN := Lib.hid (⟨h0, h1, h2, h3, h4, h5, h6, hkb⟩ : X7 w w.heap.size pos ep st ex se sq (.slice a evs.length cap) _)
      clear hXX h0 h1 h2 h3 h4 h5 h6 q0 q1 q2 q3 q4 q5 q6 hkb HH
      go_wp2
      go_roundw
      case rel => exact ⟨k + 1, by go_num, by omega, HN.out⟩
      case measure => simp [intOf]; omega
    · obtain ⟨rr, HRR⟩ : ∃ q, Hid (R.right ⟨pos, ep, ⟨st, ex, se, sq, evs⟩⟩ = q) := ⟨_, Lib.hid rfl⟩
      obtain ⟨ps, HPS⟩ : ∃ q, Hid (R.putEn ⟨pos, ep, ⟨st, ex, se, sq, evs⟩⟩ = q) := ⟨_, Lib.hid rfl⟩
      obtain ⟨pr, HPR⟩ : ∃ q, Hid (R.putRow (ensOf es) = q) := ⟨_, Lib.hid rfl⟩
      have HC1 : Hid (∀ w', X7 w w.heap.size pos ep st ex se sq (.slice a evs.length cap) w' → Calls Try.prog 18 #[.slice al es.length cl] w' fun r w'' => r = .returned (.string (B pr)) ∧ Below w'.heap.size w' w'') := Lib.hid fun w' h => by
        rw [← HPR.out]; exact PutRow_l es _ w' (readsR_below HL.out (X7_bel h)) (by omega) HSM.out
      have HC2 : Hid (∀ w', X7 w w.heap.size pos ep st ex se sq (.slice a evs.length cap) w' → Calls Try.prog 19 #[.slice al es.length cl] w' fun r w'' => r = .returned (.string (B pr)) ∧ Below w'.heap.size w' w'') := Lib.hid fun w' h => by
        rw [← HPR.out]; exact refPutRow_l es _ w' (readsR_below HL.out (X7_bel h)) (by omega) HSM.out
      have hrq : (rr == rr) = true := by cases rr <;> rfl
      clear HST
      go_wp2
      go_region_held3 (fun w' => X7 w w.heap.size pos ep st ex se sq (.slice a evs.length cap) w')
        (first | assumption | exact X7_drew (by assumption) | exact X7_call (by assumption) (by assumption))
        (first
          | (go_at_call 14; with_reducible refine (Right6_at ⟨pos, ep, ⟨st, ex, se, sq, evs⟩⟩ _ rr _ (readsE_below HV.out (X7_bel (by assumption))) HSE.out HRR).mono ?_; rintro x w4 ⟨rfl, hb4⟩)
          | (go_at_call 15; with_reducible refine (refRight6_at ⟨pos, ep, ⟨st, ex, se, sq, evs⟩⟩ _ rr _ (readsE_below HV.out (X7_bel (by assumption))) HSE.out HRR).mono ?_; rintro x w5 ⟨rfl, hb5⟩)
          | (go_at_call 16; with_reducible refine (Put6_at ⟨pos, ep, ⟨st, ex, se, sq, evs⟩⟩ _ ps _ (readsE_below HV.out (X7_bel (by assumption))) HSE.out HPS).mono ?_; rintro x w6 ⟨rfl, hb6⟩)
          | (go_at_call 17; with_reducible refine (refPut6_at ⟨pos, ep, ⟨st, ex, se, sq, evs⟩⟩ _ ps _ (readsE_below HV.out (X7_bel (by assumption))) HSE.out HPS).mono ?_; rintro x w7 ⟨rfl, hb7⟩)
          | (go_at_call 18; with_reducible refine (HC1.out _ (by assumption)).mono ?_; rintro x w8 ⟨rfl, hb8⟩)
          | (go_at_call 19; with_reducible refine (HC2.out _ (by assumption)).mono ?_; rintro x w9 ⟨rfl, hb9⟩)
          | fail)
      rename_i hHeld
      have HN := Lib.hid (X7_bel hHeld)
      clear hHeld hst
      go_wp2
      go_ret
      exact ⟨rfl, HN.out⟩

set_option maxRecDepth 100000 in
theorem recordPuts_lifted (os : Os) (started : os.Started) (H : Type) (enc : TypeId × Value → H) :
    ReturnsInHanded {} Try.checked os 3 .any (Rows.recordPutsSpec.pre6 enc Try.prog Try.f3 Rows.recordPutsRow.domain false) (Rows.recordPutsSpec.post enc Try.prog Try.f3 false true false false) := by
  refine returnsInHanded_of_change (C := Try.checked) recordPuts_own started (by kernel_rfl) Try.func3
    (ChangeSpec.witness6 (enc := enc) (C := Try.checked) false ⟨#[], #[.agg #[.int .i64 0, .int .i64 0, .string ByteArray.empty, .int .i64 0, .int .i64 0, .int .i64 0, .slice none 0 0], .slice none 0 0], []⟩ 8 (by kernel_rfl) (by kernel_rfl) (by kernel_rfl) (by kernel_rfl)) ?_
  intro W base args ds gs before hval0 hW _ _
  have hval : ∀ (j : Nat) t v, Try.f3.params[j]? = some t → args[j]? = some v → Value.okWide Try.prog W .any base t v := hval0
  have hW' := hW
  obtain ⟨p, q, hA0, hV, rfl, hfz, hnd⟩ := hW
  have hA : DataW.TrodAll enc Try.prog W 0 (fun _ => true) true Try.f3.params.toList args.toList ds p := hA0
  rw [Try.params3] at hA hval
  obtain ⟨v0, vs0, d0, ds0, p0, q0, hargs, rfl, rfl, h0, r0⟩ := trodAll_cons hA
  obtain ⟨v1, vs1, d1, ds1, p1, q1, rfl, rfl, rfl, h1, r1⟩ := trodAll_cons r0
  obtain ⟨rfl, rfl, rfl⟩ := trodAll_nil r1
  obtain rfl : args = #[v0, v1] := by cases args; simp_all
  obtain ⟨rfl, rfl⟩ := trodVars_none hV
  have k0 := h0
  have lt0 : ∀ x ∈ p0, x.block < W.heap.size := by obtain ⟨m, hm⟩ := k0; exact DataW.trod_lt m _ _ _ hm
  obtain ⟨e0, u0, rfl, w0, g0⟩ := arg_entry Try.enTy (hval 0 26 v0 rfl rfl) h0
  have k1 := h1
  have lt1 : ∀ x ∈ p1, x.block < W.heap.size := by obtain ⟨m, hm⟩ := k1; exact DataW.trod_lt m _ _ _ hm
  obtain ⟨es1, w1⟩ := arg_entries Try.enTy Try.underlying27 (hval 1 27 v1 rfl rfl) h1
  clear hA0 hval0
  refine (recordPuts_walk e0 u0 es1 _ W w0 g0 w1).mono fun e W' ⟨he, bel⟩ => ?_
  subst he
  exact ⟨_, rfl, _, _, _, [], _, [], hW', trodAll_mk1 (shut_bool Try.underlying4 _), (trodAll_cons_mk (Below.trod recordPuts_laid (by kernel_rfl) (of_decide_eq_true (by kernel_rfl)) k0 bel lt0) (trodAll_cons_mk (Below.trod recordPuts_laid (by kernel_rfl) (of_decide_eq_true (by kernel_rfl)) k1 bel lt1) trodAll_mk0)), rfl, bel.frame _, fun h => by cases h⟩

theorem recordPuts_holds : Rows.RecordPutsSaid :=
  OpenClaim.holds_of_wide 3 Try.f3 rfl rfl rfl rfl rfl rfl rfl ⟨rfl, rfl, rfl, rfl, rfl⟩ rfl rfl rfl rfl rfl (by kernel_rfl) Try.func3 (by kernel_rfl)
    (of_decide_eq_true (by kernel_rfl)) (by unfold Func.isWrapper; first | (rw [if_pos (by decide +kernel)]; kernel_rfl) | (rw [if_neg (by decide +kernel)]; exact ⟨rfl, rfl⟩))
    (fun os started H enc _ => recordPuts_lifted os started H enc)
#print axioms recordPuts_holds

end Go.Proofs.Ytfhopgficckjkaa
