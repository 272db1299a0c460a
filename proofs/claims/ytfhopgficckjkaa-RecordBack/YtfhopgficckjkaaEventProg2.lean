/-
  Walks of package event: Put, Same.
-/
import Derived.Test.YtfhopgficckjkaaEventProg
import Derived.Test.YtfhopgficckjkaaBuilderShelf
namespace Go.Proofs.Ytfhopgficckjkaa
open Go.RowKit
attribute [local go_sem] ext_Bd ext_Bl ext_Bt toList_B add_B size_B get_Bt

theorem PutText_at (l r : List UInt8) (w : World) (h : l.length ≤ 1000000) (H : Hid (N.putT l = r)) :
    Calls Try.prog 74 #[.string (B l)] w fun e w' => e = .returned (.string (B r)) ∧ Below w.heap.size w w' := by
  rw [← H.out]; exact PutText_l l w h

set_option maxHeartbeats 2000000 in
set_option maxRecDepth 100000 in
theorem EPut_at (e : E.Ev) (s : List UInt8) (w : World) (h1 : e.1.length ≤ 1000) (h2 : e.2.length ≤ 1000) (H : Hid (E.putEv e = s)) :
    Calls Try.prog 76 #[evV e] w fun x w' => x = .returned (.string (B s)) ∧ Below w.heap.size w w' := by
  obtain ⟨k, d⟩ := e
  dsimp only at h1 h2
  cases hr : E.right (k, d)
  · have HE := Lib.hid (show s = [] by rw [← H.out]; exact E.putEv_bad hr)
    have HQ := Lib.hid hr; clear hr
    go_enter Try.func76, Try.ntmps76
    go_wp2_with fail
    refine (Right_at (k, d) false _ (by omega) (by omega) HQ).mono ?_
    rintro x w1 ⟨rfl, hb1⟩
    have hb := below_box hb1
    clear hb1
    go_wp2
    go_ret
    rw [HE.out]
    exact ⟨rfl, hb⟩
  · obtain ⟨a, HA⟩ : ∃ a, Hid (N.putT k = a) := ⟨_, Lib.hid rfl⟩
    obtain ⟨c, HC⟩ : ∃ c, Hid (N.putT d = c) := ⟨_, Lib.hid rfl⟩
    have hal : a.length ≤ 1006 := by have := N.putT_len (l := k) (by omega); rw [HA.out] at this; omega
    have hcl : c.length ≤ 1006 := by have := N.putT_len (l := d) (by omega); rw [HC.out] at this; omega
    have HE := Lib.hid (show s = a ++ c by rw [← H.out, E.putEv_ok hr]; unfold E.putE; rw [HA.out, HC.out])
    have HQ := Lib.hid hr; clear hr H
    have hk6 : k.length ≤ 1000000 := by omega
    have hd6 : d.length ≤ 1000000 := by omega
    have hcat : ∀ w' : World, (Op.stringOp .add (B a) (B c)).run Try.prog w' = .ok (.string (B (a ++ c))) w' := fun w' => by
      rw [run_string_add_sum w' (B a) (B c) (by rw [size_B, size_B]; omega), add_B]
    go_enter Try.func76, Try.ntmps76
    go_wp2_with fail
    refine (Right_at (k, d) true _ (by omega) (by omega) HQ).mono ?_
    rintro x w1 ⟨rfl, hb1⟩
    have c0 := box_at hb1 0
    have c1 := box_at hb1 1
    simp at c0 c1
    have hS : BoxB w w.heap.size (.string (B k)) (.string (B d)) w1 := ⟨c0, c1, below_box hb1⟩
    clear hb1 c0 c1
    go_wp2
    unfold BoxB at hS
    go_region_held3 (fun w' => w'.cell? ⟨w.heap.size, 0, none⟩ = some (.string (B k)) ∧ w'.cell? ⟨w.heap.size, 1, none⟩ = some (.string (B d)) ∧ KeptB w w')
      (first | assumption | exact boxB_drew (by assumption) | exact boxB_call (by assumption) (by assumption))
      (first
        | (go_at_call 74; with_reducible refine (PutText_at k a _ hk6 HA).mono ?_; rintro x w4 ⟨rfl, hb4⟩)
        | (go_at_call 74; with_reducible refine (PutText_at d c _ hd6 HC).mono ?_; rintro x w5 ⟨rfl, hb5⟩))
    rename_i hHeld
    have HB := Lib.hid hHeld.2.2
    clear hHeld
    go_wp2
    go_ret
    rw [HE.out]
    exact ⟨rfl, HB.out⟩

set_option maxHeartbeats 2000000 in
set_option maxRecDepth 100000 in
theorem EEqual_at (xs ys : List E.Ev) (va vb : Value) (r : Bool) (w : World) (ha : ReadsE w va xs) (hb : ReadsE w vb ys) (hl : xs.length ≤ 1000000) (HR : Hid (decide (xs = ys) = r)) :
    Calls Try.prog 49 #[va, vb] w fun x w' => x = .returned (.bool r) ∧ sQuiet w w' := by
  obtain ⟨p, c, rfl, _, _, hx⟩ := ha
  obtain ⟨q, d, rfl, _, _, hy⟩ := hb
  have HX := Lib.hid hx; clear hx
  have HY := Lib.hid hy; clear hy
  by_cases hne : xs.length = ys.length
  · have hnb : ((xs.length : Int) == (ys.length : Int)) = true := by simp; omega
    have hnn : (xs.length == ys.length) = true := by simpa using hne
    have HNE := Lib.hid hne; clear hne
    go_enter Try.func49, Try.ntmps49
    go_wp2
    go_loopw [13] (fun i wr => ∃ k : Nat, i = .int .i64 k ∧ k ≤ xs.length ∧ xs.take k = ys.take k ∧ sQuiet w wr) (fun i _ => xs.length - (intOf i).toNat)
    case atStart => exact ⟨0, rfl, Nat.zero_le _, by simp, 0, rfl⟩
    case round =>
      obtain ⟨k, rfl, hk, ht, nq, rfl⟩ := hrel
      have HT := Lib.hid ht; clear ht
      by_cases hlt : k < xs.length
      · have hlt2 : k < ys.length := by rw [← HNE.out]; exact hlt
        obtain ⟨b1, o1, rfl, x0, x1⟩ := HX.out k hlt
        obtain ⟨b2, o2, rfl, y0, y1⟩ := HY.out k hlt2
        have hi1 : (k : Int) < (xs.length : Int) := by omega
        have hi2 : (k : Int) < (ys.length : Int) := by omega
        by_cases he : xs[k] = ys[k]
        · have HS := Lib.hid (ev_step hlt hlt2 HT.out he)
          have e1 : (xs[k].1 == ys[k].1) = true := by rw [he]; simp
          have e2 : (xs[k].2 == ys[k].2) = true := by rw [he]; simp
          clear he
          generalize xs[k] = x at *
          generalize ys[k] = y at *
          go_wp2
          go_quiet (fail)
          go_wp2
          go_roundw
          case rel => exact ⟨k + 1, by go_num, by omega, HS.out, _, rfl⟩
          case measure => simp [intOf]; omega
        · have HE := Lib.hid (show r = false by
            rw [← HR.out]
            exact decide_eq_false fun h => by subst h; exact he rfl)
          by_cases he1 : xs[k].1 = ys[k].1
          · have he2 : ¬ xs[k].2 = ys[k].2 := fun h => he (Prod.ext he1 h)
            have e1 : (xs[k].1 == ys[k].1) = true := beq_iff_eq.2 he1
            have e2 : (xs[k].2 == ys[k].2) = false := beq_eq_false_iff_ne.2 he2
            clear he he1 he2
            generalize xs[k] = x at *
            generalize ys[k] = y at *
            go_wp2
            go_quiet (fail)
            go_wp2
            go_ret
            rw [HE.out]
            exact ⟨rfl, quiet_two _ _ _⟩
          · have e1 : (xs[k].1 == ys[k].1) = false := beq_eq_false_iff_ne.2 he1
            clear he he1
            generalize xs[k] = x at *
            generalize ys[k] = y at *
            go_wp2
            go_quiet (fail)
            go_wp2
            go_ret
            rw [HE.out]
            exact ⟨rfl, quiet_two _ _ _⟩
      · have HE := Lib.hid (show r = true by
          rw [← HR.out]
          have h1 := HT.out
          rw [List.take_of_length_le (by omega), List.take_of_length_le (by rw [← HNE.out]; omega)] at h1
          exact decide_eq_true h1)
        go_wp2
        go_ret
        rw [HE.out]
        exact ⟨rfl, _, rfl⟩
  · have HE := Lib.hid (show r = false by
      rw [← HR.out]
      exact decide_eq_false fun h => by subst h; exact hne rfl)
    have hnb : ((xs.length : Int) == (ys.length : Int)) = false := beq_eq_false_iff_ne.2 (by omega)
    have hnn : (xs.length == ys.length) = false := by simpa using hne
    clear hne
    go_enter Try.func49, Try.ntmps49
    go_wp2
    go_ret
    rw [HE.out]
    exact ⟨rfl, 0, rfl⟩

theorem two_below (w : World) (o1 o2 : Obj) : Below w.heap.size w ((w.alloc o1).alloc o2) := ((Below.refl _ w).alloc (Nat.le_refl _) o1).alloc (by simp) o2
set_option maxHeartbeats 2000000 in
set_option maxRecDepth 100000 in
theorem ESame_at (a b : E.Bat) (va vb : Value) (r : Bool) (w : World) (ha : ReadsE w va a.events) (hb : ReadsE w vb b.events) (sa : E.Small a) (_sb : E.Small b) (H : Hid (E.sameB a b = r)) :
    Calls Try.prog 31 #[batV a va, batV b vb] w fun x w' => x = .returned (.bool r) ∧ Below w.heap.size w w' := by
  have hB := two_below w
  by_cases h1 : a.stream = b.stream
  · have g1 : (a.stream == b.stream) = true := beq_iff_eq.2 h1
    by_cases h2 : a.expect = b.expect
    · have g2 : (a.expect == b.expect) = true := beq_iff_eq.2 h2
      by_cases h3 : a.session = b.session
      · have g3 : (a.session == b.session) = true := beq_iff_eq.2 h3
        by_cases h4 : a.seq = b.seq
        · have g4 : (a.seq == b.seq) = true := beq_iff_eq.2 h4
          have HE := Lib.hid (show decide (a.events = b.events) = r by
            rw [← H.out]; unfold E.sameB; rw [h1, h2, h3, h4]; simp)
          have HA := Lib.hid (readsE_below ha (hB (.cells #[.string (B a.stream), .int .i64 a.expect, .int .i64 a.session, .int .i64 a.seq, va] 24) (.cells #[.string (B b.stream), .int .i64 b.expect, .int .i64 b.session, .int .i64 b.seq, vb] 24)))
          have HB := Lib.hid (readsE_below hb (hB (.cells #[.string (B a.stream), .int .i64 a.expect, .int .i64 a.session, .int .i64 a.seq, va] 24) (.cells #[.string (B b.stream), .int .i64 b.expect, .int .i64 b.session, .int .i64 b.seq, vb] 24)))
          have HSA := Lib.hid sa.2.1
          clear ha hb sa h1 h2 h3 h4 H
          go_enter Try.func31, Try.ntmps31
          go_wp2_with fail
          refine (EEqual_at a.events b.events va vb r _ HA.out HB.out (by have := HSA.out; omega) HE).mono ?_
          rintro x w1 ⟨rfl, hq⟩
          have hb1 := below_quiet (hB _ _) hq
          clear hq
          go_wp2
          go_ret
          exact ⟨rfl, hb1⟩
        · have HE := Lib.hid (show r = false by rw [← H.out]; exact E.sameB_ne fun h => h4 h.2.2.2.1)
          have g4 : (a.seq == b.seq) = false := beq_eq_false_iff_ne.2 h4
          clear h1 h2 h3 h4
          go_enter Try.func31, Try.ntmps31
          go_wp2
          go_ret
          rw [HE.out]
          exact ⟨rfl, hB _ _⟩
      · have HE := Lib.hid (show r = false by rw [← H.out]; exact E.sameB_ne fun h => h3 h.2.2.1)
        have g3 : (a.session == b.session) = false := beq_eq_false_iff_ne.2 h3
        clear h1 h2 h3
        go_enter Try.func31, Try.ntmps31
        go_wp2
        go_ret
        rw [HE.out]
        exact ⟨rfl, hB _ _⟩
    · have HE := Lib.hid (show r = false by rw [← H.out]; exact E.sameB_ne fun h => h2 h.2.1)
      have g2 : (a.expect == b.expect) = false := beq_eq_false_iff_ne.2 h2
      clear h1 h2
      go_enter Try.func31, Try.ntmps31
      go_wp2
      go_ret
      rw [HE.out]
      exact ⟨rfl, hB _ _⟩
  · have HE := Lib.hid (show r = false by rw [← H.out]; exact E.sameB_ne fun h => h1 h.1)
    have g1 : (a.stream == b.stream) = false := beq_eq_false_iff_ne.2 h1
    clear h1
    go_enter Try.func31, Try.ntmps31
    go_wp2
    go_ret
    rw [HE.out]
    exact ⟨rfl, hB _ _⟩
end Go.Proofs.Ytfhopgficckjkaa
