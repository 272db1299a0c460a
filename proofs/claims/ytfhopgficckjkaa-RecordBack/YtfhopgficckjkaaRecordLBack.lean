/-
  Proved: RecordBack of bucketlinelaw6 is true for every argument: what was put is taken, with what stands behind it.
-/
import Derived.Test.YtfhopgficckjkaaRecordShown
import Derived.Test.YtfhopgficckjkaaRecordTakeRow
import Derived.Test.YtfhopgficckjkaaRecordSameRow
import Derived.Test.YtfhopgficckjkaaRecordPutRow
import Derived.Deep.DeepCutAuto
import Derived.Deep.RegionHeld3
import Derived.ProofKit
import Derived.OpenShut
import Derived.ShutString
namespace Go.Proofs.Ytfhopgficckjkaa
open Go.ChangeShapes Go.WideShapes Go.ChangeAt Go.RowKit
open Go.ChangeMaps (open_string shut_string)
attribute [local go_sem] ext_Bd ext_Bl ext_Bt toList_B add_B size_B get_Bt

theorem recordBack_own : ownKnob Try.prog.godebug = none := by kernel_rfl
theorem recordBack_laid : laidOutB Try.prog = true := by kernel_rfl


/-- An entry in a box and one in a row, as calls leave them. -/
abbrev ZZ (w0 : World) (g : Nat) (p1 e1 : Int) (s1 : List UInt8) (x1 y1 z1 : Int) (v1 : Value) (h o : Nat) (p2 e2 : Int) (s2 : List UInt8) (x2 y2 z2 : Int) (v2 : Value) (a : World) : Prop :=
  a.cell? ⟨g, 0, none⟩ = some (.int .i64 p1) ∧ a.cell? ⟨g, 1, none⟩ = some (.int .i64 e1) ∧ a.cell? ⟨g, 2, none⟩ = some (.string (B s1)) ∧ a.cell? ⟨g, 3, none⟩ = some (.int .i64 x1) ∧ a.cell? ⟨g, 4, none⟩ = some (.int .i64 y1) ∧ a.cell? ⟨g, 5, none⟩ = some (.int .i64 z1) ∧ a.cell? ⟨g, 6, none⟩ = some v1 ∧
  a.cell? ⟨h, o, none⟩ = some (.int .i64 p2) ∧ a.cell? ⟨h, o + 1, none⟩ = some (.int .i64 e2) ∧ a.cell? ⟨h, o + 2, none⟩ = some (.string (B s2)) ∧ a.cell? ⟨h, o + 3, none⟩ = some (.int .i64 x2) ∧ a.cell? ⟨h, o + 4, none⟩ = some (.int .i64 y2) ∧ a.cell? ⟨h, o + 5, none⟩ = some (.int .i64 z2) ∧ a.cell? ⟨h, o + 6, none⟩ = some v2 ∧ KeptB w0 a
section
variable {w0 : World} {g h o : Nat} {p1 e1 p2 e2 : Int} {s1 s2 : List UInt8} {x1 y1 z1 x2 y2 z2 : Int} {v1 v2 : Value} {a b : World}
theorem ZZ_drew (hs : ZZ w0 g p1 e1 s1 x1 y1 z1 v1 h o p2 e2 s2 x2 y2 z2 v2 a) : ZZ w0 g p1 e1 s1 x1 y1 z1 v1 h o p2 e2 s2 x2 y2 z2 v2 a.drew := by
  obtain ⟨h0, h1, h2, h3, h4, h5, h6, q0, q1, q2, q3, q4, q5, q6, hk⟩ := hs
  exact ⟨h0, h1, h2, h3, h4, h5, h6, q0, q1, q2, q3, q4, q5, q6, keptB_drew hk⟩
theorem ZZ_call (hs : ZZ w0 g p1 e1 s1 x1 y1 z1 v1 h o p2 e2 s2 x2 y2 z2 v2 a) (hb : Below a.heap.size a b) : ZZ w0 g p1 e1 s1 x1 y1 z1 v1 h o p2 e2 s2 x2 y2 z2 v2 b := by
  obtain ⟨h0, h1, h2, h3, h4, h5, h6, q0, q1, q2, q3, q4, q5, q6, hk⟩ := hs
  have key := below_keeps hb
  exact ⟨key _ _ h0, key _ _ h1, key _ _ h2, key _ _ h3, key _ _ h4, key _ _ h5, key _ _ h6, key _ _ q0, key _ _ q1, key _ _ q2, key _ _ q3, key _ _ q4, key _ _ q5, key _ _ q6, keptB_call hk hb⟩
theorem ZZ_bel (hs : ZZ w0 g p1 e1 s1 x1 y1 z1 v1 h o p2 e2 s2 x2 y2 z2 v2 a) : Below w0.heap.size w0 a := hs.2.2.2.2.2.2.2.2.2.2.2.2.2.2
end

/-- The same, behind a world in which the taken entry's events lie. -/
abbrev ZK (w6 w0 : World) (g : Nat) (p1 e1 : Int) (s1 : List UInt8) (x1 y1 z1 : Int) (v1 : Value) (h o : Nat) (p2 e2 : Int) (s2 : List UInt8) (x2 y2 z2 : Int) (v2 : Value) (a : World) : Prop :=
  a.cell? ⟨g, 0, none⟩ = some (.int .i64 p1) ∧ a.cell? ⟨g, 1, none⟩ = some (.int .i64 e1) ∧ a.cell? ⟨g, 2, none⟩ = some (.string (B s1)) ∧ a.cell? ⟨g, 3, none⟩ = some (.int .i64 x1) ∧ a.cell? ⟨g, 4, none⟩ = some (.int .i64 y1) ∧ a.cell? ⟨g, 5, none⟩ = some (.int .i64 z1) ∧ a.cell? ⟨g, 6, none⟩ = some v1 ∧
  a.cell? ⟨h, o, none⟩ = some (.int .i64 p2) ∧ a.cell? ⟨h, o + 1, none⟩ = some (.int .i64 e2) ∧ a.cell? ⟨h, o + 2, none⟩ = some (.string (B s2)) ∧ a.cell? ⟨h, o + 3, none⟩ = some (.int .i64 x2) ∧ a.cell? ⟨h, o + 4, none⟩ = some (.int .i64 y2) ∧ a.cell? ⟨h, o + 5, none⟩ = some (.int .i64 z2) ∧ a.cell? ⟨h, o + 6, none⟩ = some v2 ∧ KeptB w6 a ∧ KeptB w0 a
section
variable {w6 w0 : World} {g h o : Nat} {p1 e1 p2 e2 : Int} {s1 s2 : List UInt8} {x1 y1 z1 x2 y2 z2 : Int} {v1 v2 : Value} {a b : World}
theorem ZK_of (hs : ZZ w0 g p1 e1 s1 x1 y1 z1 v1 h o p2 e2 s2 x2 y2 z2 v2 a) (hb : Below w6.heap.size w6 a) : ZK w6 w0 g p1 e1 s1 x1 y1 z1 v1 h o p2 e2 s2 x2 y2 z2 v2 a := by
  obtain ⟨h0, h1, h2, h3, h4, h5, h6, q0, q1, q2, q3, q4, q5, q6, hk⟩ := hs
  exact ⟨h0, h1, h2, h3, h4, h5, h6, q0, q1, q2, q3, q4, q5, q6, hb, hk⟩
theorem ZK_drew (hs : ZK w6 w0 g p1 e1 s1 x1 y1 z1 v1 h o p2 e2 s2 x2 y2 z2 v2 a) : ZK w6 w0 g p1 e1 s1 x1 y1 z1 v1 h o p2 e2 s2 x2 y2 z2 v2 a.drew := by
  obtain ⟨h0, h1, h2, h3, h4, h5, h6, q0, q1, q2, q3, q4, q5, q6, hk, hk2⟩ := hs
  exact ⟨h0, h1, h2, h3, h4, h5, h6, q0, q1, q2, q3, q4, q5, q6, keptB_drew hk, keptB_drew hk2⟩
theorem ZK_call (hs : ZK w6 w0 g p1 e1 s1 x1 y1 z1 v1 h o p2 e2 s2 x2 y2 z2 v2 a) (hb : Below a.heap.size a b) : ZK w6 w0 g p1 e1 s1 x1 y1 z1 v1 h o p2 e2 s2 x2 y2 z2 v2 b := by
  obtain ⟨h0, h1, h2, h3, h4, h5, h6, q0, q1, q2, q3, q4, q5, q6, hk, hk2⟩ := hs
  have key := below_keeps hb
  exact ⟨key _ _ h0, key _ _ h1, key _ _ h2, key _ _ h3, key _ _ h4, key _ _ h5, key _ _ h6, key _ _ q0, key _ _ q1, key _ _ q2, key _ _ q3, key _ _ q4, key _ _ q5, key _ _ q6, keptB_call hk hb, keptB_call hk2 hb⟩
theorem ZK_own (hs : ZK w6 w0 g p1 e1 s1 x1 y1 z1 v1 h o p2 e2 s2 x2 y2 z2 v2 a) : Below w6.heap.size w6 a := hs.2.2.2.2.2.2.2.2.2.2.2.2.2.2.1
theorem ZK_bel (hs : ZK w6 w0 g p1 e1 s1 x1 y1 z1 v1 h o p2 e2 s2 x2 y2 z2 v2 a) : Below w0.heap.size w0 a := hs.2.2.2.2.2.2.2.2.2.2.2.2.2.2.2
end
theorem all_take6 {l : List R.En} {k : Nat} (h : k < l.length) : (l.take (k + 1)).all R.right = ((l.take k).all R.right && R.right l[k]) := by
  rw [List.take_succ_eq_append_getElem h, List.all_append]; simp

set_option maxHeartbeats 8000000 in
set_option maxRecDepth 100000 in
theorem recordBack_walk (es : List EV) (v : Value) (more0 : ByteArray) (w : World) (hv : ReadsR w v es) :
    Calls Try.prog 5 #[v, .string more0] w fun e w' => e = .returned (.bool true) ∧ Below w.heap.size w w' := by
  obtain ⟨more, rfl⟩ : ∃ m, more0 = B m := ⟨L more0, (B_L more0).symm⟩
  have HV := Lib.hid hv
  obtain ⟨av, cv, rfl, _, _, hx⟩ := hv
  have HX := Lib.hid hx; clear hx
  go_enter Try.func5, Try.ntmps5
  go_wp2_with fail
  refine (shown_l w).mono ?_
  rintro x w1 ⟨rfl, hb1⟩
  have HB1 := Lib.hid hb1; clear hb1
  go_wp2_with fail
  refine (small_l es _ w1 (readsR_below HV.out HB1.out)).mono ?_
  rintro x w2 ⟨hres, hb2⟩
  have HB2 := Lib.hid (HB1.out.trans (hb2.mono HB1.out.size)); clear hb2
  rcases hres with rfl | ⟨rfl, hlen, hlight⟩
  · go_wp2
    go_ret
    exact ⟨rfl, HB2.out⟩
  have HSM : Hid (∀ x ∈ es, E.Small x.1.b) := Lib.hid fun x hx => light_small (hlight x hx)
  clear hlight
  by_cases h1 : 300 < more.length
  · have h1i : (300 : Int) < (more.length : Int) := by omega
    go_wp2
    go_ret
    exact ⟨rfl, HB2.out⟩
  have h1i : ¬ (300 : Int) < (more.length : Int) := by omega
  go_wp2
  clear h1i
  go_loopw [7, 8] (fun vr i wr => ∃ (k : Nat) (rt : Bool), i = .int .i64 k ∧ vr = .bool rt ∧ k ≤ es.length ∧ rt = ((ensOf es).take k).all R.right ∧ Below w.heap.size w wr) (fun _ i _ => es.length - (intOf i).toNat)
  case atStart => exact ⟨0, true, rfl, rfl, Nat.zero_le _, by simp, HB2.out⟩
  case round =>
    obtain ⟨k, rt, rfl, rfl, hk, hrt, hbe⟩ := hrel
    have HRTT := Lib.hid hrt
    have HBE := Lib.hid hbe
    clear hrt hbe HB2
    by_cases hlt : k < es.length
    · obtain ⟨hre, -, b1, o1, rfl, h7⟩ := HX.out k hlt
      have hk1 : (k : Int) < (es.length : Int) := by omega
      have h72 := h7.keep (below_keeps HBE.out)
      have HSK := Lib.hid (HSM.out _ (List.getElem_mem hlt))
      have HAT := Lib.hid (all_take6 (l := ensOf es) (k := k) (by rw [ensOf_len]; exact hlt))
      have e1 : (ensOf es)[k]'(by rw [ensOf_len]; exact hlt) = es[k].1 := by simp
      rw [e1, ← HRTT.out] at HAT
      have HRE := Lib.hid hre
      clear h7 e1
      generalize es[k] = pe at hre h72 HSK HAT HRE
      obtain ⟨⟨pos, ep, ⟨st, ex, se, sq, evs⟩⟩, u⟩ := pe
      dsimp only at hre h72 HSK HAT HRE
      obtain ⟨qa, qc, rfl, _⟩ := hre
      obtain ⟨c0, c1, c2, c3, c4, c5, c6⟩ := h72
      dsimp only at c0 c1 c2 c3 c4 c5
      obtain ⟨p, HP⟩ : ∃ p, Hid (R.putEn ⟨pos, ep, ⟨st, ex, se, sq, evs⟩⟩ = p) := ⟨_, Lib.hid rfl⟩
      obtain ⟨q, HQ⟩ : ∃ q, Hid (R.right ⟨pos, ep, ⟨st, ex, se, sq, evs⟩⟩ = q) := ⟨_, Lib.hid rfl⟩
      rw [HQ.out] at HAT
      go_wp2_with fail
      refine (Put6_at ⟨pos, ep, ⟨st, ex, se, sq, evs⟩⟩ _ p wr (readsE_below HRE.out HBE.out) HSK.out HP).mono ?_
      rintro x w3 ⟨rfl, hb3⟩
      have HB3 := Lib.hid (HBE.out.trans (hb3.mono HBE.out.size))
      have d0 := below_keeps hb3 _ _ c0
      have d1 := below_keeps hb3 _ _ c1
      have d2 := below_keeps hb3 _ _ c2
      have d3 := below_keeps hb3 _ _ c3
      have d4 := below_keeps hb3 _ _ c4
      have d5 := below_keeps hb3 _ _ c5
      have d6 := below_keeps hb3 _ _ c6
      clear hb3 c0 c1 c2 c3 c4 c5 c6
      go_wp2_with fail
      refine (Right6_at ⟨pos, ep, ⟨st, ex, se, sq, evs⟩⟩ _ q w3 (readsE_below HRE.out HB3.out) HSK.out HQ).mono ?_
      rintro x w4 ⟨rfl, hb4⟩
      have HB4 := Lib.hid (HB3.out.trans (hb4.mono HB3.out.size))
      have c0 := below_keeps hb4 _ _ d0
      have c1 := below_keeps hb4 _ _ d1
      have c2 := below_keeps hb4 _ _ d2
      have c3 := below_keeps hb4 _ _ d3
      have c4 := below_keeps hb4 _ _ d4
      have c5 := below_keeps hb4 _ _ d5
      have c6 := below_keeps hb4 _ _ d6
      clear hb4 d0 d1 d2 d3 d4 d5 d6
      cases q
      · have hpn : p = [] := by rw [← HP.out]; exact R.putEn_bad HQ.out
        subst hpn
        have HN : Hid (false = ((ensOf es).take (k + 1)).all R.right) := Lib.hid (by rw [HAT.out]; simp)
        cases rt
        · go_wp2
          go_roundw
          case rel => exact ⟨k + 1, false, by go_num, rfl, by omega, HN.out, HB4.out⟩
          case measure => simp [intOf]; omega
        · go_wp2
          go_roundw
          case rel => exact ⟨k + 1, false, by go_num, rfl, by omega, HN.out, HB4.out⟩
          case measure => simp [intOf]; omega
      · have hpe : R.bytes ⟨pos, ep, ⟨st, ex, se, sq, evs⟩⟩ = p := by rw [← HP.out]; exact (R.putEn_ok HQ.out).symm
        have hpos := R.bytes_pos ⟨pos, ep, ⟨st, ex, se, sq, evs⟩⟩
        have hbl := R.bytes_len HQ.out
        rw [hpe] at hpos hbl
        have hpi : (p == []) = false := by
          cases p with
          | nil => simp at hpos
          | cons => rfl
        have hpn : (p != []) = true := by simp [bne, hpi]
        have hpq : ¬ p = [] := fun h => by rw [h] at hpi; cases hpi
        have HTK : Hid (p ++ more = R.bytes ⟨pos, ep, ⟨st, ex, se, sq, evs⟩⟩ ++ more) := Lib.hid (by rw [hpe])
        have hcat := cat_run (a := p) (c := more) (by omega)
        have hpm : (p ++ more).length ≤ 1000000 := by rw [List.length_append]; omega
        have HN : Hid (rt = ((ensOf es).take (k + 1)).all R.right) := Lib.hid (by rw [HAT.out]; simp)
        have HQS := Lib.hid (same_self ⟨pos, ep, ⟨st, ex, se, sq, evs⟩⟩)
        clear hpe hpos
        cases rt
        all_goals
          go_wp2_with fail
          refine (Take6_ok ⟨pos, ep, ⟨st, ex, se, sq, evs⟩⟩ (p ++ more) more w4 HQ.out HSK.out HTK hpm).mono ?_
          rintro x w5 ⟨u5, rfl, how5, hb5⟩
          have HB5 := Lib.hid (HB4.out.trans (hb5.mono HB4.out.size))
          have hre5 := readsE_own how5
          have HRE5 := Lib.hid hre5
          obtain ⟨ga, gc, rfl, _⟩ := hre5
          dsimp only [enV]
          have hZZ : ZZ w w5.heap.size pos ep st ex se sq (.slice ga evs.length gc) b1 (o1 + k * 7) pos ep st ex se sq (.slice qa evs.length qc) (w5.alloc (.cells #[.int .i64 pos, .int .i64 ep, .string (B st), .int .i64 ex, .int .i64 se, .int .i64 sq, .slice ga evs.length gc] 26)) := by
            have hx := X7_box (pos := pos) (ep := ep) (st := st) (ex := ex) (se := se) (sq := sq) (v := .slice ga evs.length gc) (Below.refl _ (w5.alloc (.cells #[.int .i64 pos, .int .i64 ep, .string (B st), .int .i64 ex, .int .i64 se, .int .i64 sq, .slice ga evs.length gc] 26)))
            obtain ⟨h0, h1, h2, h3, h4, h5, h6, hk5⟩ := hx
            have key : ∀ p u, w4.cell? p = some u → (w5.alloc (.cells #[.int .i64 pos, .int .i64 ep, .string (B st), .int .i64 ex, .int .i64 se, .int .i64 sq, .slice ga evs.length gc] 26)).cell? p = some u := fun p u hp => below_keeps hk5 _ _ (below_keeps hb5 _ _ hp)
            exact ⟨h0, h1, h2, h3, h4, h5, h6, key _ _ c0, key _ _ c1, key _ _ c2, key _ _ c3, key _ _ c4, key _ _ c5, key _ _ c6, HB5.out.trans (hk5.mono HB5.out.size)⟩
          have HREB : Hid (ReadsE (w5.alloc (.cells #[.int .i64 pos, .int .i64 ep, .string (B st), .int .i64 ex, .int .i64 se, .int .i64 sq, .slice ga evs.length gc] 26)) (.slice ga evs.length gc) evs) := Lib.hid (readsE_below HRE5.out ((Below.refl _ w5).alloc (Nat.le_refl _) _))
          have hZK : ZK (w5.alloc (.cells #[.int .i64 pos, .int .i64 ep, .string (B st), .int .i64 ex, .int .i64 se, .int .i64 sq, .slice ga evs.length gc] 26)) w w5.heap.size pos ep st ex se sq (.slice ga evs.length gc) b1 (o1 + k * 7) pos ep st ex se sq (.slice qa evs.length qc) (w5.alloc (.cells #[.int .i64 pos, .int .i64 ep, .string (B st), .int .i64 ex, .int .i64 se, .int .i64 sq, .slice ga evs.length gc] 26)) := ZK_of hZZ (Below.refl _ _)
          clear how5 hb5 c0 c1 c2 c3 c4 c5 c6 hZZ HRE5
          go_wp2
          generalize w5.alloc (.cells #[.int .i64 pos, .int .i64 ep, .string (B st), .int .i64 ex, .int .i64 se, .int .i64 sq, .slice ga evs.length gc] 26) = w6 at HREB hZK ⊢
          go_region_held3 (fun w' => ZK w6 w w5.heap.size pos ep st ex se sq (.slice ga evs.length gc) b1 (o1 + k * 7) pos ep st ex se sq (.slice qa evs.length qc) w')
            (first | assumption | exact ZK_drew (by assumption) | exact ZK_call (by assumption) (by assumption))
            (first
              | (go_at_call 13; with_reducible refine (refSame_at ⟨pos, ep, ⟨st, ex, se, sq, evs⟩⟩ ⟨pos, ep, ⟨st, ex, se, sq, evs⟩⟩ _ _ true _ (readsE_below HREB.out (ZK_own (by assumption))) (readsE_below HRE.out (ZK_bel (by assumption))) HSK.out HQS).mono ?_; rintro x w7 ⟨rfl, hb7⟩)
              | fail)
          rename_i hHeld
          have HBN := Lib.hid (ZK_bel hHeld)
          clear hHeld hZK
          go_wp2
          go_roundw
          case rel => exact ⟨k + 1, _, by go_num, rfl, by omega, HN.out, HBN.out⟩
          case measure => simp [intOf]; omega
    · have HRA : Hid (rt = (ensOf es).all R.right) := Lib.hid (by rw [HRTT.out, List.take_of_length_le (by rw [ensOf_len]; omega)])
      have hki : ¬ (k : Int) < (es.length : Int) := by omega
      obtain ⟨pr, HPR⟩ : ∃ q, Hid (R.putRow (ensOf es) = q) := ⟨_, Lib.hid rfl⟩
      have c1 := PutRow_l es (.slice av es.length cv) wr (readsR_below HV.out HBE.out) (by omega) HSM.out
      rw [HPR.out] at c1
      have C1 := Lib.hid c1; clear c1
      go_wp2_with fail
      refine C1.out.mono ?_
      rintro x w3 ⟨rfl, hb3⟩
      have HB3 := Lib.hid (HBE.out.trans (hb3.mono HBE.out.size))
      clear hb3 C1 hki
      cases rt
      · have hpn : pr = [] := by rw [← HPR.out]; exact R.putRow_bad HRA.out.symm
        subst hpn
        go_wp2
        go_ret
        exact ⟨rfl, HB3.out⟩
      · have hal : (ensOf es).all R.right = true := HRA.out.symm
        have hpr : R.rowB (ensOf es) = pr := by rw [← HPR.out]; exact (R.putRow_ok hal).symm
        have hpl : pr.length ≤ 900000 := by
          have h5 := R.row_len hal
          have h6 := N.putL_len6 (show (ensOf es).length ≤ 1099511627776 by rw [ensOf_len]; omega)
          rw [← hpr]
          unfold R.rowB
          rw [List.length_append]
          have h7 : 20012 * (ensOf es).length ≤ 20012 * 40 := Nat.mul_le_mul_left _ (by rw [ensOf_len]; omega)
          omega
        have HTR : Hid (pr ++ more = R.rowB (ensOf es) ++ more) := Lib.hid (by rw [hpr])
        have HTL : Hid (pr = N.putL es.length ++ (ensOf es).flatMap R.bytes) := Lib.hid (by rw [← hpr]; unfold R.rowB; rw [ensOf_len])
        have hcat := cat_run (a := pr) (c := more) (by omega)
        have hpm : (pr ++ more).length ≤ 1000000 := by rw [List.length_append]; omega
        have c2 := TakeRow_ok (ensOf es) (pr ++ more) more w3 (List.all_eq_true.1 hal) (fun e he => by obtain ⟨p, hp, rfl⟩ := List.mem_map.1 he; exact HSM.out p hp) HTR hpm (by rw [ensOf_len]; omega)
        rw [ensOf_len] at c2
        have C2 := Lib.hid c2; clear c2 hal hpr
        go_wp2_with fail
        refine C2.out.mono ?_
        rintro x w4 ⟨u4', es4, rfl, hrow4⟩
        have HROW4 := Lib.hid hrow4
        have HB4 := Lib.hid (HB3.out.trans (hrow4.bel.mono HB3.out.size))
        clear hrow4 C2
        go_wp2_with fail
        refine (TakeRow_long es.length pr _ ((es.length : Int) - 1) w4 (by omega) HTL (by omega) (by omega)).mono ?_
        rintro x w5 ⟨rfl, n5, rfl⟩
        have HE4 := Lib.hid HROW4.out.ens
        have HR4 := Lib.hid HROW4.out.reads
        have hl4 : es4.length ≤ 1000 := by have := congrArg List.length HE4.out; rw [ensOf_len, ensOf_len] at this; omega
        have hq : Below w4.heap.size w4 (w4.drewN n5) := below_drewN (Below.refl _ _) n5
        have HR5 := Lib.hid (readsR_below HR4.out hq)
        have HL5 := Lib.hid (readsR_below (readsR_below HV.out HB4.out) hq)
        have HB5 := Lib.hid (below_drewN HB4.out n5)
        clear hq HR4 HROW4
        go_wp2_with fail
        refine (SameRow_true es4 es _ _ (w4.drewN n5) HR5.out HL5.out HE4.out hl4 HSM.out).mono ?_
        rintro x w6 ⟨rfl, hb6⟩
        have HB6 := Lib.hid (HB5.out.trans (hb6.mono HB5.out.size))
        clear hb6
        go_wp2
        go_ret
        exact ⟨rfl, HB6.out⟩

set_option maxRecDepth 100000 in
theorem recordBack_lifted (os : Os) (started : os.Started) (H : Type) (enc : TypeId × Value → H) :
    ReturnsInHanded {} Try.checked os 5 .any (Rows.recordBackSpec.pre6 enc Try.prog Try.f5 Rows.recordBackRow.domain false) (Rows.recordBackSpec.post enc Try.prog Try.f5 false true false false) := by
  refine returnsInHanded_of_change (C := Try.checked) recordBack_own started (by kernel_rfl) Try.func5
    (ChangeSpec.witness6 (enc := enc) (C := Try.checked) false ⟨#[], #[.slice none 0 0, .string ByteArray.empty], []⟩ 8 (by kernel_rfl) (by kernel_rfl) (by kernel_rfl) (by kernel_rfl)) ?_
  intro W base args ds gs before hval0 hW _ _
  have hval : ∀ (j : Nat) t v, Try.f5.params[j]? = some t → args[j]? = some v → Value.okWide Try.prog W .any base t v := hval0
  have hW' := hW
  obtain ⟨p, q, hA0, hV, rfl, hfz, hnd⟩ := hW
  have hA : DataW.TrodAll enc Try.prog W 0 (fun _ => true) true Try.f5.params.toList args.toList ds p := hA0
  rw [Try.params5] at hA hval
  obtain ⟨v0, vs0, d0, ds0, p0, q0, hargs, rfl, rfl, h0, r0⟩ := trodAll_cons hA
  obtain ⟨v1, vs1, d1, ds1, p1, q1, rfl, rfl, rfl, h1, r1⟩ := trodAll_cons r0
  obtain ⟨rfl, rfl, rfl⟩ := trodAll_nil r1
  obtain rfl : args = #[v0, v1] := by cases args; simp_all
  obtain ⟨rfl, rfl⟩ := trodVars_none hV
  have k0 := h0
  have lt0 : ∀ x ∈ p0, x.block < W.heap.size := by obtain ⟨m, hm⟩ := k0; exact DataW.trod_lt m _ _ _ hm
  obtain ⟨es0, w0⟩ := arg_entries Try.enTy Try.underlying27 (hval 0 27 v0 rfl rfl) h0
  obtain ⟨a1, rfl, rfl, rfl, w1⟩ := open_string Try.underlying9 (hval 1 9 v1 rfl rfl) h1
  clear hA0 hval0
  refine (recordBack_walk es0 _ a1 W w0).mono fun e W' ⟨he, bel⟩ => ?_
  subst he
  exact ⟨_, rfl, _, _, _, [], _, [], hW', trodAll_mk1 (shut_bool Try.underlying4 _), (trodAll_cons_mk (Below.trod recordBack_laid (by kernel_rfl) (of_decide_eq_true (by kernel_rfl)) k0 bel lt0) (trodAll_cons_mk (shut_string Try.underlying9 w1) trodAll_mk0)), rfl, bel.frame _, fun h => by cases h⟩

theorem recordBack_holds : Rows.RecordBackSaid :=
  OpenClaim.holds_of_wide 5 Try.f5 rfl rfl rfl rfl rfl rfl rfl ⟨rfl, rfl, rfl, rfl, rfl⟩ rfl rfl rfl rfl rfl (by kernel_rfl) Try.func5 (by kernel_rfl)
    (of_decide_eq_true (by kernel_rfl)) (by unfold Func.isWrapper; first | (rw [if_pos (by decide +kernel)]; kernel_rfl) | (rw [if_neg (by decide +kernel)]; exact ⟨rfl, rfl⟩))
    (fun os started H enc _ => recordBack_lifted os started H enc)
#print axioms recordBack_holds

end Go.Proofs.Ytfhopgficckjkaa
