/-
  Walk of Same of the document's answer, and what SameRow of it tells.
-/
import Derived.Test.YtfhopgficckjkaaRecordSame
namespace Go.Proofs.Ytfhopgficckjkaa
open Go.RowKit
attribute [local go_sem] ext_Bd ext_Bl ext_Bt toList_B add_B size_B get_Bt

set_option maxHeartbeats 4000000 in
set_option maxRecDepth 100000 in
theorem refSame_tail (ps ep : Int) (st : List UInt8) (ex se sq : Int) (xs ys : List E.Ev) (va vb : Value) (w : World) (ha : ReadsE w va xs) (hb : ReadsE w vb ys) (hne : xs.length = ys.length) (hl : xs.length ≤ 1000000) :
    Calls Try.prog 13 #[enV ⟨ps, ep, ⟨st, ex, se, sq, xs⟩⟩ va, enV ⟨ps, ep, ⟨st, ex, se, sq, ys⟩⟩ vb] w fun r w' => r = .returned (.bool (decide (xs = ys))) ∧ Below w.heap.size w w' := by
  obtain ⟨p, c, rfl, _, _, hx⟩ := ha
  obtain ⟨q, d, rfl, _, _, hy⟩ := hb
  have HX := Lib.hid hx; clear hx
  have HY := Lib.hid hy; clear hy
  obtain ⟨r, HR⟩ : ∃ r, Hid (decide (xs = ys) = r) := ⟨_, Lib.hid rfl⟩
  rw [HR.out]
  have hnb : ((xs.length : Int) != (ys.length : Int)) = false := by simp; omega
  have hnn : (xs.length != ys.length) = false := by simpa using hne
  have HNE := Lib.hid hne; clear hne
  dsimp only [enV]
  go_enter Try.func13, Try.ntmps13
  go_wp2
  have hB := allocs4 w (.cells #[.int .i64 ps, .int .i64 ep, .string (B st), .int .i64 ex, .int .i64 se, .int .i64 sq, .slice p xs.length c] 26) (.cells #[.int .i64 ps, .int .i64 ep, .string (B st), .int .i64 ex, .int .i64 se, .int .i64 sq, .slice q ys.length d] 26) (.cells #[.string (B st), .int .i64 ex, .int .i64 se, .int .i64 sq, .slice p xs.length c] 24) (.cells #[.string (B st), .int .i64 ex, .int .i64 se, .int .i64 sq, .slice q ys.length d] 24)
  have c2 : ((((w.alloc (.cells #[.int .i64 ps, .int .i64 ep, .string (B st), .int .i64 ex, .int .i64 se, .int .i64 sq, .slice p xs.length c] 26)).alloc (.cells #[.int .i64 ps, .int .i64 ep, .string (B st), .int .i64 ex, .int .i64 se, .int .i64 sq, .slice q ys.length d] 26)).alloc (.cells #[.string (B st), .int .i64 ex, .int .i64 se, .int .i64 sq, .slice p xs.length c] 24)).alloc (.cells #[.string (B st), .int .i64 ex, .int .i64 se, .int .i64 sq, .slice q ys.length d] 24)).cell? ⟨w.heap.size + 2, 4, none⟩ = some (.slice p xs.length c) := by
    have := box_at ((Below.refl _ (((w.alloc (.cells #[.int .i64 ps, .int .i64 ep, .string (B st), .int .i64 ex, .int .i64 se, .int .i64 sq, .slice p xs.length c] 26)).alloc (.cells #[.int .i64 ps, .int .i64 ep, .string (B st), .int .i64 ex, .int .i64 se, .int .i64 sq, .slice q ys.length d] 26)).alloc (.cells #[.string (B st), .int .i64 ex, .int .i64 se, .int .i64 sq, .slice p xs.length c] 24))).alloc (Nat.le_refl _) (.cells #[.string (B st), .int .i64 ex, .int .i64 se, .int .i64 sq, .slice q ys.length d] 24)) 4
    rw [World.size_alloc, World.size_alloc] at this
    exact this
  have c3 : ((((w.alloc (.cells #[.int .i64 ps, .int .i64 ep, .string (B st), .int .i64 ex, .int .i64 se, .int .i64 sq, .slice p xs.length c] 26)).alloc (.cells #[.int .i64 ps, .int .i64 ep, .string (B st), .int .i64 ex, .int .i64 se, .int .i64 sq, .slice q ys.length d] 26)).alloc (.cells #[.string (B st), .int .i64 ex, .int .i64 se, .int .i64 sq, .slice p xs.length c] 24)).alloc (.cells #[.string (B st), .int .i64 ex, .int .i64 se, .int .i64 sq, .slice q ys.length d] 24)).cell? ⟨w.heap.size + 3, 4, none⟩ = some (.slice q ys.length d) := by
    have := box_cells (((w.alloc (.cells #[.int .i64 ps, .int .i64 ep, .string (B st), .int .i64 ex, .int .i64 se, .int .i64 sq, .slice p xs.length c] 26)).alloc (.cells #[.int .i64 ps, .int .i64 ep, .string (B st), .int .i64 ex, .int .i64 se, .int .i64 sq, .slice q ys.length d] 26)).alloc (.cells #[.string (B st), .int .i64 ex, .int .i64 se, .int .i64 sq, .slice p xs.length c] 24)) #[.string (B st), .int .i64 ex, .int .i64 se, .int .i64 sq, .slice q ys.length d] 24 4
    rw [World.size_alloc, World.size_alloc, World.size_alloc] at this
    exact this
  generalize (((w.alloc (.cells #[.int .i64 ps, .int .i64 ep, .string (B st), .int .i64 ex, .int .i64 se, .int .i64 sq, .slice p xs.length c] 26)).alloc (.cells #[.int .i64 ps, .int .i64 ep, .string (B st), .int .i64 ex, .int .i64 se, .int .i64 sq, .slice q ys.length d] 26)).alloc (.cells #[.string (B st), .int .i64 ex, .int .i64 se, .int .i64 sq, .slice p xs.length c] 24)).alloc (.cells #[.string (B st), .int .i64 ex, .int .i64 se, .int .i64 sq, .slice q ys.length d] 24) = W at *
  go_loopw [7] (fun i wr => ∃ k : Nat, i = .int .i64 k ∧ k ≤ xs.length ∧ xs.take k = ys.take k ∧ sQuiet W wr) (fun i _ => xs.length - (intOf i).toNat)
  case atStart => exact ⟨0, rfl, Nat.zero_le _, by simp, 0, rfl⟩
  case round =>
    obtain ⟨k, rfl, hk, ht, nq, rfl⟩ := hrel
    have HT := Lib.hid ht; clear ht
    by_cases hlt : k < xs.length
    · have hlt2 : k < ys.length := by rw [← HNE.out]; exact hlt
      obtain ⟨b1, o1, rfl, p0, p1⟩ := HX.out k hlt
      obtain ⟨b2, o2, rfl, q0, q1⟩ := HY.out k hlt2
      have x0 := below_keeps2 hB p0
      have x1 := below_keeps2 hB p1
      have y0 := below_keeps2 hB q0
      have y1 := below_keeps2 hB q1
      have hi1 : (k : Int) < (xs.length : Int) := by omega
      have hi2 : (k : Int) < (ys.length : Int) := by omega
      clear p0 p1 q0 q1
      by_cases he : xs[k] = ys[k]
      · have HS := Lib.hid (ev_step hlt hlt2 HT.out he)
        have e1 : (xs[k].1 == ys[k].1) = true := by rw [he]; simp
        have e2 : (xs[k].2 == ys[k].2) = true := by rw [he]; simp
        clear he
        generalize xs[k] = x at x0 x1 e1 e2
        generalize ys[k] = y at y0 y1 e1 e2
        go_wp2
        go_quiet (fail)
        go_wp2
        go_roundw
        case rel => exact ⟨k + 1, by go_num, by omega, HS.out, _, rfl⟩
        case measure => simp [intOf]; omega
      · have HE := Lib.hid (show r = false by
          rw [← HR.out]
          exact decide_eq_false fun h => by subst h; exact he rfl)
        by_cases he1 : xs[k].1 = ys[k].1
        · have he2 : ¬ xs[k].2 = ys[k].2 := fun h => he (Prod.ext he1 h)
          have e1 : (xs[k].1 == ys[k].1) = true := beq_iff_eq.2 he1
          have e2 : (xs[k].2 == ys[k].2) = false := beq_eq_false_iff_ne.2 he2
          clear he he1 he2
          generalize xs[k] = x at x0 x1 e1 e2
          generalize ys[k] = y at y0 y1 e1 e2
          go_wp2
          go_quiet (fail)
          go_wp2
          go_ret
          rw [HE.out]
          exact ⟨rfl, below_quiet hB (quiet_two _ _ _)⟩
        · have e1 : (xs[k].1 == ys[k].1) = false := beq_eq_false_iff_ne.2 he1
          clear he he1
          generalize xs[k] = x at x0 x1 e1
          generalize ys[k] = y at y0 y1 e1
          go_wp2
          go_quiet (fail)
          go_wp2
          go_ret
          rw [HE.out]
          exact ⟨rfl, below_quiet hB (quiet_two _ _ _)⟩
    · have HE := Lib.hid (show r = true by
        rw [← HR.out]
        have h1 := HT.out
        rw [List.take_of_length_le (by omega), List.take_of_length_le (by rw [← HNE.out]; omega)] at h1
        exact decide_eq_true h1)
      go_wp2
      go_ret
      rw [HE.out]
      exact ⟨rfl, below_quiet hB ⟨_, rfl⟩⟩
theorem refSame_at (x y : R.En) (vx vy : Value) (r : Bool) (w : World) (hx : ReadsE w vx x.b.events) (hy : ReadsE w vy y.b.events) (sx : E.Small x.b) (H : Hid (R.same x y = r)) :
    Calls Try.prog 13 #[enV x vx, enV y vy] w fun e w' => e = .returned (.bool r) ∧ Below w.heap.size w w' := by
  rw [← H.out]
  by_cases h : x.pos = y.pos ∧ x.epoch = y.epoch ∧ x.b.stream = y.b.stream ∧ x.b.expect = y.b.expect ∧ x.b.session = y.b.session ∧ x.b.seq = y.b.seq ∧ x.b.events.length = y.b.events.length
  · obtain ⟨p1, e1, ⟨st1, ex1, se1, sq1, ev1⟩⟩ := x
    obtain ⟨p2, e2, ⟨st2, ex2, se2, sq2, ev2⟩⟩ := y
    obtain ⟨h1, h2, h3, h4, h5, h6, h7⟩ := h
    dsimp only at h1 h2 h3 h4 h5 h6 h7 hx hy sx
    subst h1 h2 h3 h4 h5 h6
    have e : R.same ⟨p1, e1, ⟨st1, ex1, se1, sq1, ev1⟩⟩ ⟨p1, e1, ⟨st1, ex1, se1, sq1, ev2⟩⟩ = decide (ev1 = ev2) := by unfold R.same E.sameB; simp
    rw [e]
    exact refSame_tail p1 e1 st1 ex1 se1 sq1 ev1 ev2 vx vy w hx hy h7 (Nat.le_trans sx.2.1 (by omega))
  · have e : R.same x y = false := by
      cases hs : R.same x y
      · rfl
      · exfalso
        unfold R.same at hs
        simp only [Bool.and_eq_true, decide_eq_true_eq] at hs
        refine h ⟨hs.1, hs.2.1, ?_⟩
        by_cases hb : x.b.stream = y.b.stream ∧ x.b.expect = y.b.expect ∧ x.b.session = y.b.session ∧ x.b.seq = y.b.seq ∧ x.b.events = y.b.events
        · exact ⟨hb.1, hb.2.1, hb.2.2.1, hb.2.2.2.1, by rw [hb.2.2.2.2]⟩
        · rw [E.sameB_ne hb] at hs
          cases hs.2.2
    rw [e]
    exact refSame_head x y vx vy w hx hy h
end Go.Proofs.Ytfhopgficckjkaa
