/-
  Walks of sameBatch and light of the statements' package.
-/
import Derived.Test.YtjjefdfjmkbbiaaEventRef2
namespace Go.Proofs.Ytjjefdfjmkbbiaa
open Go.RowKit
attribute [local go_sem] ext_Bd ext_Bl ext_Bt toList_B add_B size_B get_Bt

set_option maxHeartbeats 2000000 in
set_option maxRecDepth 100000 in
theorem sameBatch_head (a b : E.Bat) (va vb : Value) (w : World) (ha : ReadsE w va a.events) (hb : ReadsE w vb b.events)
    (h : ¬ (a.stream = b.stream ∧ a.expect = b.expect ∧ a.session = b.session ∧ a.seq = b.seq ∧ a.events.length = b.events.length)) :
    Calls Try.prog 21 #[batV a va, batV b vb] w fun r w' => r = .returned (.bool false) ∧ Below w.heap.size w w' := by
  obtain ⟨p, c, rfl, _⟩ := ha
  obtain ⟨q, d, rfl, _⟩ := hb
  have hB : ∀ o1 o2, Below w.heap.size w ((w.alloc o1).alloc o2) := fun o1 o2 => ((Below.refl _ w).alloc (Nat.le_refl _) o1).alloc (by simp) o2
  by_cases h1 : a.stream = b.stream
  · have g1 : (a.stream == b.stream) = true := beq_iff_eq.2 h1
    by_cases h2 : a.expect = b.expect
    · have g2 : (a.expect == b.expect) = true := beq_iff_eq.2 h2
      by_cases h3 : a.session = b.session
      · have g3 : (a.session == b.session) = true := beq_iff_eq.2 h3
        by_cases h4 : a.seq = b.seq
        · have g4 : (a.seq == b.seq) = true := beq_iff_eq.2 h4
          have h5 : ¬ a.events.length = b.events.length := fun h5 => h ⟨h1, h2, h3, h4, h5⟩
          have g5 : ((a.events.length : Int) == (b.events.length : Int)) = false := beq_eq_false_iff_ne.2 (by omega)
          have g6 : (a.events.length == b.events.length) = false := beq_eq_false_iff_ne.2 h5
          clear h h1 h2 h3 h4
          go_enter Try.func21, Try.ntmps21
          go_wp2
          all_goals
            go_ret
            exact ⟨rfl, hB _ _⟩
        · have g4 : (a.seq == b.seq) = false := beq_eq_false_iff_ne.2 h4
          clear h h1 h2 h3
          go_enter Try.func21, Try.ntmps21
          go_wp2
          all_goals
            go_ret
            exact ⟨rfl, hB _ _⟩
      · have g3 : (a.session == b.session) = false := beq_eq_false_iff_ne.2 h3
        clear h h1 h2
        go_enter Try.func21, Try.ntmps21
        go_wp2
        all_goals
          go_ret
          exact ⟨rfl, hB _ _⟩
    · have g2 : (a.expect == b.expect) = false := beq_eq_false_iff_ne.2 h2
      clear h h1
      go_enter Try.func21, Try.ntmps21
      go_wp2
      all_goals
        go_ret
        exact ⟨rfl, hB _ _⟩
  · have g1 : (a.stream == b.stream) = false := beq_eq_false_iff_ne.2 h1
    clear h
    go_enter Try.func21, Try.ntmps21
    go_wp2
    all_goals
      go_ret
      exact ⟨rfl, hB _ _⟩

set_option maxHeartbeats 2000000 in
set_option maxRecDepth 100000 in
theorem sameBatch_tail (st : List UInt8) (ex se sq : Int) (xs ys : List E.Ev) (va vb : Value) (w : World) (ha : ReadsE w va xs) (hb : ReadsE w vb ys) (hne : xs.length = ys.length) (hl : xs.length ≤ 1000000) :
    Calls Try.prog 21 #[batV ⟨st, ex, se, sq, xs⟩ va, batV ⟨st, ex, se, sq, ys⟩ vb] w fun r w' => r = .returned (.bool (decide (xs = ys))) ∧ Below w.heap.size w w' := by
  obtain ⟨p, c, rfl, _, _, hx⟩ := ha
  obtain ⟨q, d, rfl, _, _, hy⟩ := hb
  have HX := Lib.hid hx; clear hx
  have HY := Lib.hid hy; clear hy
  obtain ⟨r, HR⟩ : ∃ r, Hid (decide (xs = ys) = r) := ⟨_, Lib.hid rfl⟩
  rw [HR.out]
  have hnb : ((xs.length : Int) != (ys.length : Int)) = false := by simp; omega
  have hnn : (xs.length != ys.length) = false := by simpa using hne
  have HNE := Lib.hid hne; clear hne
  have hB : Below w.heap.size w ((w.alloc (.cells #[.string (B st), .int .i64 ex, .int .i64 se, .int .i64 sq, .slice p xs.length c] 26)).alloc (.cells #[.string (B st), .int .i64 ex, .int .i64 se, .int .i64 sq, .slice q ys.length d] 26)) :=
    ((Below.refl _ w).alloc (Nat.le_refl _) _).alloc (by simp) _
  go_enter Try.func21, Try.ntmps21
  go_wp2
  have c2 : ((w.alloc (.cells #[.string (B st), .int .i64 ex, .int .i64 se, .int .i64 sq, .slice p xs.length c] 26)).alloc (.cells #[.string (B st), .int .i64 ex, .int .i64 se, .int .i64 sq, .slice q ys.length d] 26)).cell? ⟨w.heap.size, 4, none⟩ = some (.slice p xs.length c) := by
    rw [((Below.refl _ _).alloc (Nat.le_refl _) _ : Below (w.alloc (.cells #[.string (B st), .int .i64 ex, .int .i64 se, .int .i64 sq, .slice p xs.length c] 26)).heap.size _ _).cell (by simp), World.cell?_alloc_new]; rfl
  have c3 : ((w.alloc (.cells #[.string (B st), .int .i64 ex, .int .i64 se, .int .i64 sq, .slice p xs.length c] 26)).alloc (.cells #[.string (B st), .int .i64 ex, .int .i64 se, .int .i64 sq, .slice q ys.length d] 26)).cell? ⟨w.heap.size + 1, 4, none⟩ = some (.slice q ys.length d) := by
    have := World.cell?_alloc_new (w.alloc (.cells #[.string (B st), .int .i64 ex, .int .i64 se, .int .i64 sq, .slice p xs.length c] 26)) #[.string (B st), .int .i64 ex, .int .i64 se, .int .i64 sq, .slice q ys.length d] 26 4
    rw [World.size_alloc] at this
    rw [this]; rfl
  generalize (w.alloc (.cells #[.string (B st), .int .i64 ex, .int .i64 se, .int .i64 sq, .slice p xs.length c] 26)).alloc (.cells #[.string (B st), .int .i64 ex, .int .i64 se, .int .i64 sq, .slice q ys.length d] 26) = W at *
  go_loopw [5] (fun i wr => ∃ k : Nat, i = .int .i64 k ∧ k ≤ xs.length ∧ xs.take k = ys.take k ∧ sQuiet W wr) (fun i _ => xs.length - (intOf i).toNat)
  case atStart => exact ⟨0, rfl, Nat.zero_le _, by simp, 0, rfl⟩
  case round =>
    obtain ⟨k, rfl, hk, ht, nq, rfl⟩ := hrel
    have HT := Lib.hid ht; clear ht
    by_cases hlt : k < xs.length
    · have hlt2 : k < ys.length := by rw [← HNE.out]; exact hlt
      obtain ⟨b1, o1, rfl, p0, p1⟩ := HX.out k hlt
      obtain ⟨b2, o2, rfl, q0, q1⟩ := HY.out k hlt2
      have x0 : W.cell? ⟨b1, o1 + k * 2, none⟩ = some (.string (B xs[k].1)) := by rw [hB.cell (World.block_lt_of_cell? w _ p0)]; exact p0
      have x1 : W.cell? ⟨b1, o1 + k * 2 + 1, none⟩ = some (.string (B xs[k].2)) := by rw [hB.cell (World.block_lt_of_cell? w _ p1)]; exact p1
      have y0 : W.cell? ⟨b2, o2 + k * 2, none⟩ = some (.string (B ys[k].1)) := by rw [hB.cell (World.block_lt_of_cell? w _ q0)]; exact q0
      have y1 : W.cell? ⟨b2, o2 + k * 2 + 1, none⟩ = some (.string (B ys[k].2)) := by rw [hB.cell (World.block_lt_of_cell? w _ q1)]; exact q1
      have hi1 : (k : Int) < (xs.length : Int) := by omega
      have hi2 : (k : Int) < (ys.length : Int) := by omega
      clear p0 p1 q0 q1
      by_cases he : xs[k] = ys[k]
      · have HS := Lib.hid (ev_step hlt hlt2 HT.out he)
        have e1 : (xs[k].1 == ys[k].1) = true := by rw [he]; simp
        have e2 : (xs[k].2 == ys[k].2) = true := by rw [he]; simp
        clear he
        generalize xs[k] = x at *
        generalize ys[k] = y at *
        go_wp2
        go_quiet (fail)
        go_wp2
        go_roundw
        case rel => exact ⟨k + 1, by go_num, by omega, HS.out, _, rfl⟩
        case measure => simp [intOf]; omega
      · have HE := Lib.hid (show r = false by
          rw [← HR.out]
          exact decide_eq_false fun h => by subst h; exact he rfl)
        by_cases he1 : xs[k].1 = ys[k].1
        · have he2 : ¬ xs[k].2 = ys[k].2 := fun h => he (Prod.ext he1 h)
          have e1 : (xs[k].1 == ys[k].1) = true := beq_iff_eq.2 he1
          have e2 : (xs[k].2 == ys[k].2) = false := beq_eq_false_iff_ne.2 he2
          clear he he1 he2
          generalize xs[k] = x at *
          generalize ys[k] = y at *
          go_wp2
          go_quiet (fail)
          go_wp2
          go_ret
          rw [HE.out]
          exact ⟨rfl, below_quiet hB (quiet_two _ _ _)⟩
        · have e1 : (xs[k].1 == ys[k].1) = false := beq_eq_false_iff_ne.2 he1
          clear he he1
          generalize xs[k] = x at *
          generalize ys[k] = y at *
          go_wp2
          go_quiet (fail)
          go_wp2
          go_ret
          rw [HE.out]
          exact ⟨rfl, below_quiet hB (quiet_two _ _ _)⟩
    · have HE := Lib.hid (show r = true by
        rw [← HR.out]
        have h1 := HT.out
        rw [List.take_of_length_le (by omega), List.take_of_length_le (by rw [← HNE.out]; omega)] at h1
        exact decide_eq_true h1)
      go_wp2
      go_ret
      rw [HE.out]
      exact ⟨rfl, below_quiet hB ⟨_, rfl⟩⟩
theorem sameBatch_l (a b : E.Bat) (va vb : Value) (w : World) (ha : ReadsE w va a.events) (hb : ReadsE w vb b.events) (hl : a.events.length ≤ 1000000) :
    Calls Try.prog 21 #[batV a va, batV b vb] w fun r w' => r = .returned (.bool (E.sameB a b)) ∧ Below w.heap.size w w' := by
  by_cases h : a.stream = b.stream ∧ a.expect = b.expect ∧ a.session = b.session ∧ a.seq = b.seq ∧ a.events.length = b.events.length
  · obtain ⟨st, ex, se, sq, xs⟩ := a
    obtain ⟨st2, ex2, se2, sq2, ys⟩ := b
    obtain ⟨h1, h2, h3, h4, h5⟩ := h
    dsimp only at h1 h2 h3 h4 h5 ha hb hl
    subst h1 h2 h3 h4
    have e : E.sameB ⟨st, ex, se, sq, xs⟩ ⟨st, ex, se, sq, ys⟩ = decide (xs = ys) := by unfold E.sameB; simp
    rw [e]
    exact sameBatch_tail st ex se sq xs ys va vb w ha hb h5 hl
  · have e : E.sameB a b = false := E.sameB_ne fun h2 => h ⟨h2.1, h2.2.1, h2.2.2.1, h2.2.2.2.1, by rw [h2.2.2.2.2]⟩
    rw [e]
    exact sameBatch_head a b va vb w ha hb h

def E.Light (b : E.Bat) : Prop := b.stream.length ≤ 300 ∧ b.events.length ≤ 20 ∧ ∀ e ∈ b.events, e.1.length ≤ 300 ∧ e.2.length ≤ 500

set_option maxHeartbeats 2000000 in
set_option maxRecDepth 100000 in
theorem light_l (b : E.Bat) (v : Value) (w : World) (hv : ReadsE w v b.events) :
    Calls Try.prog 10 #[batV b v] w fun r w' => (r = .returned (.bool false) ∨ (r = .returned (.bool true) ∧ E.Light b)) ∧ Below w.heap.size w w' := by
  obtain ⟨a, cap, rfl, _, _, hx⟩ := hv
  have HX := Lib.hid hx; clear hx
  have hB : Below w.heap.size w (w.alloc (.cells #[.string (B b.stream), .int .i64 b.expect, .int .i64 b.session, .int .i64 b.seq, .slice a b.events.length cap] 26)) := (Below.refl _ w).alloc (Nat.le_refl _) _
  by_cases h1 : 300 < b.stream.length
  · go_enter Try.func10, Try.ntmps10
    go_wp2
    go_ret
    exact ⟨.inl rfl, hB⟩
  by_cases h2 : 20 < b.events.length
  · go_enter Try.func10, Try.ntmps10
    go_wp2
    go_ret
    exact ⟨.inl rfl, hB⟩
  go_enter Try.func10, Try.ntmps10
  go_wp2
  have c4 : (w.alloc (.cells #[.string (B b.stream), .int .i64 b.expect, .int .i64 b.session, .int .i64 b.seq, .slice a b.events.length cap] 26)).cell? ⟨w.heap.size, 4, none⟩ = some (.slice a b.events.length cap) := by
    rw [World.cell?_alloc_new]; rfl
  generalize w.alloc (.cells #[.string (B b.stream), .int .i64 b.expect, .int .i64 b.session, .int .i64 b.seq, .slice a b.events.length cap] 26) = W at *
  have HL : Hid ((∀ e ∈ b.events, e.1.length ≤ 300 ∧ e.2.length ≤ 500) → E.Light b) := Lib.hid fun h => ⟨by omega, by omega, h⟩
  generalize b.events = evs at *
  go_loop [3] (fun i => ∃ k : Nat, i = .int .i64 k ∧ k ≤ evs.length ∧ ∀ e ∈ evs.take k, e.1.length ≤ 300 ∧ e.2.length ≤ 500) (fun i => evs.length - (intOf i).toNat)
  case atStart => exact ⟨0, rfl, Nat.zero_le _, by simp⟩
  case round =>
    obtain ⟨k, rfl, hk, hall⟩ := hrel
    have HALL := Lib.hid hall; clear hall
    by_cases hlt : k < evs.length
    · obtain ⟨b1, o1, rfl, p0, p1⟩ := HX.out k hlt
      have x0 : W.cell? ⟨b1, o1 + k * 2, none⟩ = some (.string (B evs[k].1)) := by rw [hB.cell (World.block_lt_of_cell? w _ p0)]; exact p0
      have x1 : W.cell? ⟨b1, o1 + k * 2 + 1, none⟩ = some (.string (B evs[k].2)) := by rw [hB.cell (World.block_lt_of_cell? w _ p1)]; exact p1
      have hi1 : (k : Int) < (evs.length : Int) := by omega
      clear p0 p1
      have HN : Hid (evs[k].1.length ≤ 300 → evs[k].2.length ≤ 500 → ∀ e ∈ evs.take (k + 1), e.1.length ≤ 300 ∧ e.2.length ≤ 500) := Lib.hid fun g1 g2 e he => by
        rw [List.take_succ_eq_append_getElem hlt, List.mem_append] at he
        rcases he with he | he
        · exact HALL.out e he
        · simp at he; subst he; exact ⟨g1, g2⟩
      generalize evs[k] = e at *
      by_cases h3 : 300 < e.1.length
      · have h3i : (300 : Int) < e.1.length := by omega
        go_wp2
        go_ret
        exact ⟨.inl rfl, hB⟩
      have h3i : ¬ (300 : Int) < e.1.length := by omega
      by_cases h4 : 500 < e.2.length
      · have h4i : (500 : Int) < e.2.length := by omega
        go_wp2
        go_ret
        exact ⟨.inl rfl, hB⟩
      have h4i : ¬ (500 : Int) < e.2.length := by omega
      have HN2 := Lib.hid (HN.out (by omega) (by omega))
      go_wp2
      go_round
      case rel => exact ⟨k + 1, by go_num, by omega, HN2.out⟩
      case measure => simp [intOf]; omega
    · have hal := HALL.out
      rw [List.take_of_length_le (by omega)] at hal
      have HAL := Lib.hid hal; clear hal
      go_wp2
      go_ret
      exact ⟨.inr ⟨rfl, HL.out HAL.out⟩, hB⟩
end Go.Proofs.Ytjjefdfjmkbbiaa
