/-
  Walks of Same, of package record and of the document's answer. Walk of Same of the document's answer, and what SameRow of it tells. Parts of lists of entries that came in, and appends of them. Walk of SameRow of the document's answer, of two rows that are the same. Walk of Same of the document's answer, of two messages that are the same. Two messages of one kind and parts.
-/
import Derived.Test.YtljcgpdjhjkciaaRecordPut
import Derived.Test.YtljcgpdjhjkciaaEventProg2
import Derived.Test.YtljcgpdjhjkciaaRecordRowE
import Derived.Test.YtljcgpdjhjkciaaMsgSmall
import Derived.Test.YtljcgpdjhjkciaaMsgMore
namespace Go.Proofs.Ytljcgpdjhjkciaa
open Go.RowKit
attribute [local go_sem] ext_Bd ext_Bl ext_Bt toList_B add_B size_B get_Bt

def R.same (x y : R.En) : Bool := decide (x.pos = y.pos) && (decide (x.epoch = y.epoch) && E.sameB x.b y.b)


theorem allocs4 (w : World) (o1 o2 o3 o4 : Obj) : Below w.heap.size w ((((w.alloc o1).alloc o2).alloc o3).alloc o4) :=
  ((((Below.refl _ w).alloc (Nat.le_refl _) o1).alloc (by simp) o2).alloc (by simp; omega) o3).alloc (by simp; omega) o4
set_option maxHeartbeats 4000000 in
set_option maxRecDepth 100000 in
theorem refSame_head (x y : R.En) (vx vy : Value) (w : World) (hx : ReadsE w vx x.b.events) (hy : ReadsE w vy y.b.events)
    (h : ¬ (x.pos = y.pos ∧ x.epoch = y.epoch ∧ x.b.stream = y.b.stream ∧ x.b.expect = y.b.expect ∧ x.b.session = y.b.session ∧ x.b.seq = y.b.seq ∧ x.b.events.length = y.b.events.length)) :
    Calls Try.prog 22 #[enV x vx, enV y vy] w fun r w' => r = .returned (.bool false) ∧ Below w.heap.size w w' := by
  obtain ⟨p1, e1, ⟨st1, ex1, se1, sq1, ev1⟩⟩ := x
  obtain ⟨p2, e2, ⟨st2, ex2, se2, sq2, ev2⟩⟩ := y
  dsimp only at hx hy h ⊢
  obtain ⟨a1, c1, rfl, _⟩ := hx
  obtain ⟨a2, c2, rfl, _⟩ := hy
  by_cases h1 : ¬ p1 = p2
  · have g : (p1 == p2) = false := beq_eq_false_iff_ne.2 h1
    have gn : (p1 != p2) = true := by simpa using h1
    clear h h1
    go_enter Try.func22, Try.ntmps22
    go_wp2
    all_goals
      go_ret
      exact ⟨rfl, allocs4 _ _ _ _ _⟩
  replace h1 := Decidable.of_not_not h1
  by_cases h2 : ¬ e1 = e2
  · have g : (e1 == e2) = false := beq_eq_false_iff_ne.2 h2
    have gn : (e1 != e2) = true := by simpa using h2
    clear h h2
    subst h1
    go_enter Try.func22, Try.ntmps22
    go_wp2
    all_goals
      go_ret
      exact ⟨rfl, allocs4 _ _ _ _ _⟩
  replace h2 := Decidable.of_not_not h2
  by_cases h3 : ¬ st1 = st2
  · have g : (st1 == st2) = false := beq_eq_false_iff_ne.2 h3
    have gn : (st1 != st2) = true := by simpa using h3
    clear h h3
    subst h1 h2
    go_enter Try.func22, Try.ntmps22
    go_wp2
    all_goals
      go_ret
      exact ⟨rfl, allocs4 _ _ _ _ _⟩
  replace h3 := Decidable.of_not_not h3
  by_cases h4 : ¬ ex1 = ex2
  · have g : (ex1 == ex2) = false := beq_eq_false_iff_ne.2 h4
    have gn : (ex1 != ex2) = true := by simpa using h4
    clear h h4
    subst h1 h2 h3
    go_enter Try.func22, Try.ntmps22
    go_wp2
    all_goals
      go_ret
      exact ⟨rfl, allocs4 _ _ _ _ _⟩
  replace h4 := Decidable.of_not_not h4
  by_cases h5 : ¬ se1 = se2
  · have g : (se1 == se2) = false := beq_eq_false_iff_ne.2 h5
    have gn : (se1 != se2) = true := by simpa using h5
    clear h h5
    subst h1 h2 h3 h4
    go_enter Try.func22, Try.ntmps22
    go_wp2
    all_goals
      go_ret
      exact ⟨rfl, allocs4 _ _ _ _ _⟩
  replace h5 := Decidable.of_not_not h5
  by_cases h6 : ¬ sq1 = sq2
  · have g : (sq1 == sq2) = false := beq_eq_false_iff_ne.2 h6
    have gn : (sq1 != sq2) = true := by simpa using h6
    clear h h6
    subst h1 h2 h3 h4 h5
    go_enter Try.func22, Try.ntmps22
    go_wp2
    all_goals
      go_ret
      exact ⟨rfl, allocs4 _ _ _ _ _⟩
  replace h6 := Decidable.of_not_not h6
  have h7 : ¬ ev1.length = ev2.length := fun h7 => h ⟨h1, h2, h3, h4, h5, h6, h7⟩
  have g7 : ((ev1.length : Int) != (ev2.length : Int)) = true := by simp; omega
  have g8 : (ev1.length != ev2.length) = true := by simpa using h7
  clear h h7
  subst h1 h2 h3 h4 h5 h6
  go_enter Try.func22, Try.ntmps22
  go_wp2
  all_goals
    go_ret
    exact ⟨rfl, allocs4 _ _ _ _ _⟩
end Go.Proofs.Ytljcgpdjhjkciaa
namespace Go.Proofs.Ytljcgpdjhjkciaa
open Go.RowKit
attribute [local go_sem] ext_Bd ext_Bl ext_Bt toList_B add_B size_B get_Bt

set_option maxHeartbeats 4000000 in
set_option maxRecDepth 100000 in
theorem refSame_tail (ps ep : Int) (st : List UInt8) (ex se sq : Int) (xs ys : List E.Ev) (va vb : Value) (w : World) (ha : ReadsE w va xs) (hb : ReadsE w vb ys) (hne : xs.length = ys.length) (hl : xs.length ≤ 1000000) :
    Calls Try.prog 22 #[enV ⟨ps, ep, ⟨st, ex, se, sq, xs⟩⟩ va, enV ⟨ps, ep, ⟨st, ex, se, sq, ys⟩⟩ vb] w fun r w' => r = .returned (.bool (decide (xs = ys))) ∧ Below w.heap.size w w' := by
  obtain ⟨p, c, rfl, _, _, hx⟩ := ha
  obtain ⟨q, d, rfl, _, _, hy⟩ := hb
  have HX := Lib.hid hx; clear hx
  have HY := Lib.hid hy; clear hy
  obtain ⟨r, HR⟩ : ∃ r, Hid (decide (xs = ys) = r) := ⟨_, Lib.hid rfl⟩
  rw [HR.out]
  have hnb : ((xs.length : Int) != (ys.length : Int)) = false := by simp; omega
  have hnn : (xs.length != ys.length) = false := by simpa using hne
  have HNE := Lib.hid hne; clear hne
  dsimp only [enV]
  go_enter Try.func22, Try.ntmps22
  go_wp2
  have hB := allocs4 w (.cells #[.int .i64 ps, .int .i64 ep, .string (B st), .int .i64 ex, .int .i64 se, .int .i64 sq, .slice p xs.length c] 55) (.cells #[.int .i64 ps, .int .i64 ep, .string (B st), .int .i64 ex, .int .i64 se, .int .i64 sq, .slice q ys.length d] 55) (.cells #[.string (B st), .int .i64 ex, .int .i64 se, .int .i64 sq, .slice p xs.length c] 28) (.cells #[.string (B st), .int .i64 ex, .int .i64 se, .int .i64 sq, .slice q ys.length d] 28)
  have c2 : ((((w.alloc (.cells #[.int .i64 ps, .int .i64 ep, .string (B st), .int .i64 ex, .int .i64 se, .int .i64 sq, .slice p xs.length c] 55)).alloc (.cells #[.int .i64 ps, .int .i64 ep, .string (B st), .int .i64 ex, .int .i64 se, .int .i64 sq, .slice q ys.length d] 55)).alloc (.cells #[.string (B st), .int .i64 ex, .int .i64 se, .int .i64 sq, .slice p xs.length c] 28)).alloc (.cells #[.string (B st), .int .i64 ex, .int .i64 se, .int .i64 sq, .slice q ys.length d] 28)).cell? ⟨w.heap.size + 2, 4, none⟩ = some (.slice p xs.length c) := by
    have := box_at ((Below.refl _ (((w.alloc (.cells #[.int .i64 ps, .int .i64 ep, .string (B st), .int .i64 ex, .int .i64 se, .int .i64 sq, .slice p xs.length c] 55)).alloc (.cells #[.int .i64 ps, .int .i64 ep, .string (B st), .int .i64 ex, .int .i64 se, .int .i64 sq, .slice q ys.length d] 55)).alloc (.cells #[.string (B st), .int .i64 ex, .int .i64 se, .int .i64 sq, .slice p xs.length c] 28))).alloc (Nat.le_refl _) (.cells #[.string (B st), .int .i64 ex, .int .i64 se, .int .i64 sq, .slice q ys.length d] 28)) 4
    rw [World.size_alloc, World.size_alloc] at this
    exact this
  have c3 : ((((w.alloc (.cells #[.int .i64 ps, .int .i64 ep, .string (B st), .int .i64 ex, .int .i64 se, .int .i64 sq, .slice p xs.length c] 55)).alloc (.cells #[.int .i64 ps, .int .i64 ep, .string (B st), .int .i64 ex, .int .i64 se, .int .i64 sq, .slice q ys.length d] 55)).alloc (.cells #[.string (B st), .int .i64 ex, .int .i64 se, .int .i64 sq, .slice p xs.length c] 28)).alloc (.cells #[.string (B st), .int .i64 ex, .int .i64 se, .int .i64 sq, .slice q ys.length d] 28)).cell? ⟨w.heap.size + 3, 4, none⟩ = some (.slice q ys.length d) := by
    have := box_cells (((w.alloc (.cells #[.int .i64 ps, .int .i64 ep, .string (B st), .int .i64 ex, .int .i64 se, .int .i64 sq, .slice p xs.length c] 55)).alloc (.cells #[.int .i64 ps, .int .i64 ep, .string (B st), .int .i64 ex, .int .i64 se, .int .i64 sq, .slice q ys.length d] 55)).alloc (.cells #[.string (B st), .int .i64 ex, .int .i64 se, .int .i64 sq, .slice p xs.length c] 28)) #[.string (B st), .int .i64 ex, .int .i64 se, .int .i64 sq, .slice q ys.length d] 28 4
    rw [World.size_alloc, World.size_alloc, World.size_alloc] at this
    exact this
  generalize (((w.alloc (.cells #[.int .i64 ps, .int .i64 ep, .string (B st), .int .i64 ex, .int .i64 se, .int .i64 sq, .slice p xs.length c] 55)).alloc (.cells #[.int .i64 ps, .int .i64 ep, .string (B st), .int .i64 ex, .int .i64 se, .int .i64 sq, .slice q ys.length d] 55)).alloc (.cells #[.string (B st), .int .i64 ex, .int .i64 se, .int .i64 sq, .slice p xs.length c] 28)).alloc (.cells #[.string (B st), .int .i64 ex, .int .i64 se, .int .i64 sq, .slice q ys.length d] 28) = W at *
  go_loopw [7] (fun i wr => ∃ k : Nat, i = .int .i64 k ∧ k ≤ xs.length ∧ xs.take k = ys.take k ∧ sQuiet W wr) (fun i _ => xs.length - (intOf i).toNat)
  case atStart => exact ⟨0, rfl, Nat.zero_le _, by simp, 0, rfl⟩
  case round =>
    obtain ⟨k, rfl, hk, ht, nq, rfl⟩ := hrel
    have HT := Lib.hid ht; clear ht
    by_cases hlt : k < xs.length
    · have hlt2 : k < ys.length := by rw [← HNE.out]; exact hlt
      obtain ⟨b1, o1, rfl, p0, p1⟩ := HX.out k hlt
      obtain ⟨b2, o2, rfl, q0, q1⟩ := HY.out k hlt2
      have x0 := below_keeps2 hB p0
      have x1 := below_keeps2 hB p1
      have y0 := below_keeps2 hB q0
      have y1 := below_keeps2 hB q1
      have hi1 : (k : Int) < (xs.length : Int) := by omega
      have hi2 : (k : Int) < (ys.length : Int) := by omega
      clear p0 p1 q0 q1
      by_cases he : xs[k] = ys[k]
      · have HS := Lib.hid (ev_step hlt hlt2 HT.out he)
        have e1 : (xs[k].1 == ys[k].1) = true := by rw [he]; simp
        have e2 : (xs[k].2 == ys[k].2) = true := by rw [he]; simp
        clear he
        generalize xs[k] = x at x0 x1 e1 e2
        generalize ys[k] = y at y0 y1 e1 e2
        go_wp2
        go_quiet (fail)
        go_wp2
        go_roundw
        case rel => exact ⟨k + 1, by go_num, by omega, HS.out, _, rfl⟩
        case measure => simp [intOf]; omega
      · have HE := Lib.hid (show r = false by
          rw [← HR.out]
          exact decide_eq_false fun h => by subst h; exact he rfl)
        by_cases he1 : xs[k].1 = ys[k].1
        · have he2 : ¬ xs[k].2 = ys[k].2 := fun h => he (Prod.ext he1 h)
          have e1 : (xs[k].1 == ys[k].1) = true := beq_iff_eq.2 he1
          have e2 : (xs[k].2 == ys[k].2) = false := beq_eq_false_iff_ne.2 he2
          clear he he1 he2
          generalize xs[k] = x at x0 x1 e1 e2
          generalize ys[k] = y at y0 y1 e1 e2
          go_wp2
          go_quiet (fail)
          go_wp2
          go_ret
          rw [HE.out]
          exact ⟨rfl, below_quiet hB (quiet_two _ _ _)⟩
        · have e1 : (xs[k].1 == ys[k].1) = false := beq_eq_false_iff_ne.2 he1
          clear he he1
          generalize xs[k] = x at x0 x1 e1
          generalize ys[k] = y at y0 y1 e1
          go_wp2
          go_quiet (fail)
          go_wp2
          go_ret
          rw [HE.out]
          exact ⟨rfl, below_quiet hB (quiet_two _ _ _)⟩
    · have HE := Lib.hid (show r = true by
        rw [← HR.out]
        have h1 := HT.out
        rw [List.take_of_length_le (by omega), List.take_of_length_le (by rw [← HNE.out]; omega)] at h1
        exact decide_eq_true h1)
      go_wp2
      go_ret
      rw [HE.out]
      exact ⟨rfl, below_quiet hB ⟨_, rfl⟩⟩
theorem refSame_at (x y : R.En) (vx vy : Value) (r : Bool) (w : World) (hx : ReadsE w vx x.b.events) (hy : ReadsE w vy y.b.events) (sx : x.b.events.length ≤ 1000000) (H : Hid (R.same x y = r)) :
    Calls Try.prog 22 #[enV x vx, enV y vy] w fun e w' => e = .returned (.bool r) ∧ Below w.heap.size w w' := by
  rw [← H.out]
  by_cases h : x.pos = y.pos ∧ x.epoch = y.epoch ∧ x.b.stream = y.b.stream ∧ x.b.expect = y.b.expect ∧ x.b.session = y.b.session ∧ x.b.seq = y.b.seq ∧ x.b.events.length = y.b.events.length
  · obtain ⟨p1, e1, ⟨st1, ex1, se1, sq1, ev1⟩⟩ := x
    obtain ⟨p2, e2, ⟨st2, ex2, se2, sq2, ev2⟩⟩ := y
    obtain ⟨h1, h2, h3, h4, h5, h6, h7⟩ := h
    dsimp only at h1 h2 h3 h4 h5 h6 h7 hx hy sx
    subst h1 h2 h3 h4 h5 h6
    have e : R.same ⟨p1, e1, ⟨st1, ex1, se1, sq1, ev1⟩⟩ ⟨p1, e1, ⟨st1, ex1, se1, sq1, ev2⟩⟩ = decide (ev1 = ev2) := by unfold R.same E.sameB; simp
    rw [e]
    exact refSame_tail p1 e1 st1 ex1 se1 sq1 ev1 ev2 vx vy w hx hy h7 sx
  · have e : R.same x y = false := by
      cases hs : R.same x y
      · rfl
      · exfalso
        unfold R.same at hs
        simp only [Bool.and_eq_true, decide_eq_true_eq] at hs
        refine h ⟨hs.1, hs.2.1, ?_⟩
        by_cases hb : x.b.stream = y.b.stream ∧ x.b.expect = y.b.expect ∧ x.b.session = y.b.session ∧ x.b.seq = y.b.seq ∧ x.b.events = y.b.events
        · exact ⟨hb.1, hb.2.1, hb.2.2.1, hb.2.2.2.1, by rw [hb.2.2.2.2]⟩
        · rw [E.sameB_ne hb] at hs
          cases hs.2.2
    rw [e]
    exact refSame_head x y vx vy w hx hy h
end Go.Proofs.Ytljcgpdjhjkciaa
namespace Go.Proofs.Ytljcgpdjhjkciaa
open Go.RowKit

theorem readsR_take {w : World} {a : Option Addr} {cap : Nat} {es : List EV} (h : ReadsR w (.slice a es.length cap) es) {k : Nat} (hk : k ≤ es.length) : ReadsR w (.slice a k cap) (es.take k) := by
  obtain ⟨a2, c2, hv, hc, hn, hx⟩ := h
  cases hv
  have hl : (es.take k).length = k := by rw [List.length_take]; omega
  refine ⟨a, cap, by rw [hl], by rw [hl]; omega, hn, fun i hi => ?_⟩
  rw [hl] at hi
  have e1 : (es.take k)[i] = es[i] := by simp
  rw [e1]
  exact hx i (by omega)
theorem readsR_drop {w : World} {b o : Nat} {cap : Nat} {es : List EV} (h : ReadsR w (.slice (some ⟨b, o, none⟩) es.length cap) es) {k n : Nat} (hn : es.length - k = n) (hk : k ≤ es.length) (a' : Option Addr) (ha : 0 < n → a' = some ⟨b, o + k * 7, none⟩) (hz : a' = none → cap - k = 0) : ReadsR w (.slice a' n (cap - k)) (es.drop k) := by
  obtain ⟨a2, c2, hv, hc, _, hx⟩ := h
  cases hv
  have hl : (es.drop k).length = n := by rw [List.length_drop]; omega
  refine ⟨a', cap - k, by rw [hl], by rw [hl]; omega, hz, fun i hi => ?_⟩
  rw [hl] at hi
  have e1 : (es.drop k)[i] = es[k + i] := by simp
  rw [e1]
  obtain ⟨hre, hp, b2, o2, e2, h7⟩ := hx (k + i) (by omega)
  cases e2
  refine ⟨hre, hp, b, o + k * 7, ha (by omega), ?_⟩
  rw [show o + k * 7 + i * 7 = o + (k + i) * 7 by omega]
  exact h7
/-- What the cells of a list that came in are, one behind the other. -/
theorem reads_cells {w : World} {b o cap : Nat} {es : List EV} {n : Nat} (hn : es.length = n) (h : ReadsR w (.slice (some ⟨b, o, none⟩) n cap) es) : ∀ j u, (enCells es)[j]? = some u → w.cell? ((⟨b, o, none⟩ : Addr).add j) = some u := by
  subst hn
  intro j u hj
  have hjl : j < es.length * 7 := by rw [← enCells_len]; exact (List.getElem?_eq_some_iff.1 hj).1
  obtain ⟨a2, c2, hv, _, _, hx⟩ := h
  cases hv
  have hi : j / 7 < es.length := by omega
  obtain ⟨_, _, b2, o2, e2, c0, c1, c2', c3, c4, c5, c6⟩ := hx (j / 7) hi
  cases e2
  obtain ⟨g0, g1, g2, g3, g4, g5, g6⟩ := enCells_get es (j / 7) hi
  rw [Go.WideShapes.add_plain]
  have hm : j % 7 < 7 := Nat.mod_lt _ (by omega)
  have hd : j = j / 7 * 7 + j % 7 := by omega
  generalize j / 7 = d at *
  generalize j % 7 = m at *
  subst hd
  match m, hm with
  | 0, _ => rw [Nat.add_zero, g0] at hj; rw [Nat.add_zero]; rw [← hj]; exact c0
  | 1, _ => rw [g1] at hj; rw [← hj, ← Nat.add_assoc]; exact c1
  | 2, _ => rw [g2] at hj; rw [← hj, ← Nat.add_assoc]; exact c2'
  | 3, _ => rw [g3] at hj; rw [← hj, ← Nat.add_assoc]; exact c3
  | 4, _ => rw [g4] at hj; rw [← hj, ← Nat.add_assoc]; exact c4
  | 5, _ => rw [g5] at hj; rw [← hj, ← Nat.add_assoc]; exact c5
  | 6, _ => rw [g6] at hj; rw [← hj, ← Nat.add_assoc]; exact c6
theorem enCells_one {es : List EV} (h : ∀ p ∈ es, ∃ a n c, p.2 = .slice a n c) : ∀ u ∈ enCells es, u.oneCell' = true := by
  intro u hu
  unfold enCells at hu
  rw [List.mem_flatMap] at hu
  obtain ⟨p, hp, hu⟩ := hu
  obtain ⟨a, n, c, he⟩ := h p hp
  simp only [evCells7, he, List.mem_cons, List.not_mem_nil, or_false] at hu
  rcases hu with rfl | rfl | rfl | rfl | rfl | rfl | rfl <;> rfl
theorem reads_forms {w : World} {v : Value} {es : List EV} (h : ReadsR w v es) : ∀ p ∈ es, ∃ a n c, p.2 = .slice a n c := by
  intro p hp
  obtain ⟨i, hi, rfl⟩ := List.mem_iff_getElem.1 hp
  obtain ⟨_, _, _, _, _, hx⟩ := h
  exact readsE_form (hx i hi).1
end Go.Proofs.Ytljcgpdjhjkciaa
namespace Go.Proofs.Ytljcgpdjhjkciaa
open Go.RowKit
attribute [local go_sem] ext_Bd ext_Bl ext_Bt toList_B add_B size_B get_Bt

/-- Two entries in two rows, as calls leave them. -/
abbrev YY (w0 : World) (g i : Nat) (p1 e1 : Int) (s1 : List UInt8) (x1 y1 z1 : Int) (v1 : Value) (h o : Nat) (p2 e2 : Int) (s2 : List UInt8) (x2 y2 z2 : Int) (v2 : Value) (a : World) : Prop :=
  a.cell? ⟨g, i, none⟩ = some (.int .i64 p1) ∧ a.cell? ⟨g, i + 1, none⟩ = some (.int .i64 e1) ∧ a.cell? ⟨g, i + 2, none⟩ = some (.string (B s1)) ∧ a.cell? ⟨g, i + 3, none⟩ = some (.int .i64 x1) ∧ a.cell? ⟨g, i + 4, none⟩ = some (.int .i64 y1) ∧ a.cell? ⟨g, i + 5, none⟩ = some (.int .i64 z1) ∧ a.cell? ⟨g, i + 6, none⟩ = some v1 ∧
  a.cell? ⟨h, o, none⟩ = some (.int .i64 p2) ∧ a.cell? ⟨h, o + 1, none⟩ = some (.int .i64 e2) ∧ a.cell? ⟨h, o + 2, none⟩ = some (.string (B s2)) ∧ a.cell? ⟨h, o + 3, none⟩ = some (.int .i64 x2) ∧ a.cell? ⟨h, o + 4, none⟩ = some (.int .i64 y2) ∧ a.cell? ⟨h, o + 5, none⟩ = some (.int .i64 z2) ∧ a.cell? ⟨h, o + 6, none⟩ = some v2 ∧ KeptB w0 a
section
variable {w0 : World} {g i h o : Nat} {p1 e1 p2 e2 : Int} {s1 s2 : List UInt8} {x1 y1 z1 x2 y2 z2 : Int} {v1 v2 : Value} {a b : World}
theorem YY_drew (hs : YY w0 g i p1 e1 s1 x1 y1 z1 v1 h o p2 e2 s2 x2 y2 z2 v2 a) : YY w0 g i p1 e1 s1 x1 y1 z1 v1 h o p2 e2 s2 x2 y2 z2 v2 a.drew := by
  obtain ⟨h0, h1, h2, h3, h4, h5, h6, q0, q1, q2, q3, q4, q5, q6, hk⟩ := hs
  exact ⟨h0, h1, h2, h3, h4, h5, h6, q0, q1, q2, q3, q4, q5, q6, keptB_drew hk⟩
theorem YY_call (hs : YY w0 g i p1 e1 s1 x1 y1 z1 v1 h o p2 e2 s2 x2 y2 z2 v2 a) (hb : Below a.heap.size a b) : YY w0 g i p1 e1 s1 x1 y1 z1 v1 h o p2 e2 s2 x2 y2 z2 v2 b := by
  obtain ⟨h0, h1, h2, h3, h4, h5, h6, q0, q1, q2, q3, q4, q5, q6, hk⟩ := hs
  have key := below_keeps hb
  exact ⟨key _ _ h0, key _ _ h1, key _ _ h2, key _ _ h3, key _ _ h4, key _ _ h5, key _ _ h6, key _ _ q0, key _ _ q1, key _ _ q2, key _ _ q3, key _ _ q4, key _ _ q5, key _ _ q6, keptB_call hk hb⟩
theorem YY_bel (hs : YY w0 g i p1 e1 s1 x1 y1 z1 v1 h o p2 e2 s2 x2 y2 z2 v2 a) : Below w0.heap.size w0 a := hs.2.2.2.2.2.2.2.2.2.2.2.2.2.2
end
theorem same_self (x : R.En) : R.same x x = true := by
  unfold R.same E.sameB
  simp

set_option maxHeartbeats 4000000 in
set_option maxRecDepth 100000 in
theorem SameRow_true (es fs : List EV) (va vb : Value) (w : World) (ha : ReadsR w va es) (hb : ReadsR w vb fs) (he : ensOf es = ensOf fs) (hl : es.length ≤ 1000) (hs : ∀ x ∈ fs, x.1.b.events.length ≤ 1000000) :
    Calls Try.prog 21 #[va, vb] w fun r w' => r = .returned (.bool true) ∧ Below w.heap.size w w' := by
  have hle : es.length = fs.length := by rw [← ensOf_len es, he, ensOf_len]
  have HEI : Hid (∀ i (h1 : i < es.length) (h2 : i < fs.length), es[i].1 = fs[i].1) := Lib.hid fun i h1 h2 => by
    have e1 : (ensOf es)[i]'(by rw [ensOf_len]; exact h1) = (ensOf fs)[i]'(by rw [ensOf_len]; exact h2) := by simp only [he]
    simpa using e1
  have HA := Lib.hid ha
  have HB := Lib.hid hb
  have HSM := Lib.hid hs
  obtain ⟨aa, ca, rfl, _⟩ := ha
  obtain ⟨ab, cb, rfl, _⟩ := hb
  have HLE := Lib.hid hle
  rw [hle]
  have HA2 : Hid (ReadsR w (.slice aa fs.length ca) es) := Lib.hid (by rw [← hle]; exact HA.out)
  have hfl : fs.length ≤ 1000 := by omega
  clear hs he hle HA hl
  go_enter Try.func21, Try.ntmps21
  go_wp2
  go_loopw [5] (fun i wr => ∃ k : Nat, i = .int .i64 k ∧ k ≤ fs.length ∧ Below w.heap.size w wr) (fun i _ => fs.length - (intOf i).toNat)
  case atStart => exact ⟨0, rfl, Nat.zero_le _, Below.refl _ _⟩
  case round =>
    obtain ⟨k, rfl, hk, hbe⟩ := hrel
    have HBE := Lib.hid hbe; clear hbe
    by_cases hlt : k < fs.length
    · have hk1 : (k : Int) < (fs.length : Int) := by omega
      have hlt2 : k < es.length := by rw [HLE.out]; exact hlt
      obtain ⟨a2, c2, hva, _, _, hxa⟩ := HA2.out
      obtain ⟨a3, c3, hvb, _, _, hxb⟩ := HB.out
      obtain ⟨hrea, -, b1, o1, rfl, h7a⟩ := hxa k hlt2
      obtain ⟨hreb, -, b2, o2, rfl, h7b⟩ := hxb k hlt
      injection hva with hva1 hva2 hva3
      injection hvb with hvb1 hvb2 hvb3
      subst hva1 hvb1
      have h7a2 := h7a.keep (below_keeps HBE.out)
      have h7b2 := h7b.keep (below_keeps HBE.out)
      have hei := HEI.out k hlt2 hlt
      rw [hei] at h7a2 hrea
      have HSK := Lib.hid (HSM.out _ (List.getElem_mem hlt))
      have HREA := Lib.hid hrea
      have HREB := Lib.hid hreb
      generalize es[k].2 = ua at h7a2 hrea HREA
      generalize fs[k] = pf at h7a2 h7b2 HSK HREA HREB hrea hreb
      obtain ⟨⟨pos, ep, ⟨st, ex, se, sq, evs⟩⟩, ub⟩ := pf
      dsimp only at h7a2 h7b2 HSK HREA HREB hrea hreb
      obtain ⟨qa, qc, rfl, _⟩ := hrea
      obtain ⟨qb, qd, rfl, _⟩ := hreb
      have hYY : YY w b1 (o1 + k * 7) pos ep st ex se sq (.slice qa evs.length qc) b2 (o2 + k * 7) pos ep st ex se sq (.slice qb evs.length qd) wr := by
        obtain ⟨h0, h1, h2, h3, h4, h5, h6⟩ := h7a2
        obtain ⟨q0, q1, q2, q3, q4, q5, q6⟩ := h7b2
        exact ⟨h0, h1, h2, h3, h4, h5, h6, q0, q1, q2, q3, q4, q5, q6, HBE.out⟩
      have HQ := Lib.hid (same_self ⟨pos, ep, ⟨st, ex, se, sq, evs⟩⟩)
      clear h7a h7b h7a2 h7b2 hxa hxb hei hva2 hva3 hvb2 hvb3
      go_wp2
      go_region_held3 (fun w' => YY w b1 (o1 + k * 7) pos ep st ex se sq (.slice qa evs.length qc) b2 (o2 + k * 7) pos ep st ex se sq (.slice qb evs.length qd) w')
        (first | assumption | exact YY_drew (by assumption) | exact YY_call (by assumption) (by assumption))
        (first
          | (go_at_call 22; with_reducible refine (refSame_at ⟨pos, ep, ⟨st, ex, se, sq, evs⟩⟩ ⟨pos, ep, ⟨st, ex, se, sq, evs⟩⟩ _ _ true _ (readsE_below HREA.out (YY_bel (by assumption))) (readsE_below HREB.out (YY_bel (by assumption))) HSK.out HQ).mono ?_; rintro x w5 ⟨rfl, hb5⟩)
          | fail)
      rename_i hHeld
      have HN := Lib.hid (YY_bel hHeld)
      clear hHeld hYY
      go_wp2
      go_roundw
      case rel => exact ⟨k + 1, by go_num, by omega, HN.out⟩
      case measure => simp [intOf]; omega
    · have hki : ¬ (k : Int) < (fs.length : Int) := by omega
      go_wp2
      go_ret
      exact ⟨rfl, HBE.out⟩
end Go.Proofs.Ytljcgpdjhjkciaa
namespace Go.Proofs.Ytljcgpdjhjkciaa
open Go.RowKit
attribute [local go_sem] ext_Bd ext_Bl ext_Bt toList_B add_B size_B get_Bt

/-- A slice of numbers that reads as a list. -/
def ReadsJ (w : World) (v : Value) (zs : List Int) : Prop :=
  ∃ a cap, v = .slice a zs.length cap ∧ ∀ i (h : i < zs.length), ∃ b off, a = some ⟨b, off, none⟩ ∧ w.cell? ⟨b, off + i, none⟩ = some (.int .i64 zs[i])
theorem readsJ_below {w w' : World} {v : Value} {zs : List Int} (h : ReadsJ w v zs) (hb : Below w.heap.size w w') : ReadsJ w' v zs := by
  obtain ⟨a, cap, h1, hx⟩ := h
  refine ⟨a, cap, h1, fun i hi => ?_⟩
  obtain ⟨b, off, e, c⟩ := hx i hi
  exact ⟨b, off, e, below_keeps hb _ _ c⟩
theorem readsJ_I {w : World} {v : Value} {zs : List Int} (h : ReadsI w v zs) : ReadsJ w v zs := by
  obtain ⟨a, cap, h1, hx⟩ := h
  refine ⟨a, cap, h1, fun i hi => ?_⟩
  obtain ⟨_, b, off, e, c⟩ := hx i hi
  exact ⟨b, off, e, c⟩
theorem S4_drew {W w : World} {a1 a2 a3 a4 : Addr} {v1 v2 v3 v4 : Value} (h : w.cell? a1 = some v1 ∧ w.cell? a2 = some v2 ∧ w.cell? a3 = some v3 ∧ w.cell? a4 = some v4 ∧ sQuiet W w) : w.drew.cell? a1 = some v1 ∧ w.drew.cell? a2 = some v2 ∧ w.drew.cell? a3 = some v3 ∧ w.drew.cell? a4 = some v4 ∧ sQuiet W w.drew := ⟨h.1, h.2.1, h.2.2.1, h.2.2.2.1, quiet_drew h.2.2.2.2⟩
theorem S6_drew {W w : World} {a1 a2 a3 a4 a5 a6 : Addr} {v1 v2 v3 v4 v5 v6 : Value} (h : w.cell? a1 = some v1 ∧ w.cell? a2 = some v2 ∧ w.cell? a3 = some v3 ∧ w.cell? a4 = some v4 ∧ w.cell? a5 = some v5 ∧ w.cell? a6 = some v6 ∧ sQuiet W w) : w.drew.cell? a1 = some v1 ∧ w.drew.cell? a2 = some v2 ∧ w.drew.cell? a3 = some v3 ∧ w.drew.cell? a4 = some v4 ∧ w.drew.cell? a5 = some v5 ∧ w.drew.cell? a6 = some v6 ∧ sQuiet W w.drew := ⟨h.1, h.2.1, h.2.2.1, h.2.2.2.1, h.2.2.2.2.1, h.2.2.2.2.2.1, quiet_drew h.2.2.2.2.2.2⟩
theorem allocs2 (w : World) (o1 o2 : Obj) : Below w.heap.size w ((w.alloc o1).alloc o2) :=
  ((Below.refl _ w).alloc (Nat.le_refl _) o1).alloc (by simp) o2

set_option maxHeartbeats 16000000 in
set_option maxRecDepth 100000 in
theorem Same7_true (kind : Int) (ns ch si bo : List Int) (ma : List R.Mk) (e1 e2 : List EV) (ev : List E.Ev) (bt : E.Bat) (st : List UInt8) (vn1 vc1 vs1 vb1 vm1 ve1 vv1 vt1 vn2 vc2 vs2 vb2 vm2 ve2 vv2 vt2 : Value) (w : World)
    (hn1 : ReadsJ w vn1 ns) (hn2 : ReadsJ w vn2 ns) (hc1 : ReadsJ w vc1 ch) (hc2 : ReadsJ w vc2 ch) (hs1 : ReadsJ w vs1 si) (hs2 : ReadsJ w vs2 si) (hb1 : ReadsJ w vb1 bo) (hb2 : ReadsJ w vb2 bo) (hm1 : ReadsM w vm1 ma) (hm2 : ReadsM w vm2 ma)
    (he1 : ReadsR w ve1 e1) (he2 : ReadsR w ve2 e2) (hv1 : ReadsE w vv1 ev) (hv2 : ReadsE w vv2 ev) (ht1 : ReadsE w vt1 bt.events) (ht2 : ReadsE w vt2 bt.events)
    (hee : ensOf e1 = ensOf e2) (ln : ns.length ≤ 1000) (lc : ch.length ≤ 1000) (ls : si.length ≤ 1000) (lb : bo.length ≤ 1000) (lm : ma.length ≤ 1000) (le : e1.length ≤ 1000) (lv : ev.length ≤ 1000) (lt : bt.events.length ≤ 1000000) (lq : ∀ x ∈ e2, x.1.b.events.length ≤ 1000000) :
    Calls Try.prog 15 #[.agg #[.int .i64 kind, vn1, vc1, vs1, vb1, vm1, ve1, vv1, .string (B bt.stream), .int .i64 bt.expect, .int .i64 bt.session, .int .i64 bt.seq, vt1, .string (B st)], .agg #[.int .i64 kind, vn2, vc2, vs2, vb2, vm2, ve2, vv2, .string (B bt.stream), .int .i64 bt.expect, .int .i64 bt.session, .int .i64 bt.seq, vt2, .string (B st)]] w fun r w' => r = .returned (.bool true) ∧ Below w.heap.size w w' := by
  obtain ⟨bst, bex, bse, bsq, bev⟩ := bt
  dsimp only at ht1 ht2 lt ⊢
  have HT1 := Lib.hid ht1
  have HT2 := Lib.hid ht2
  have HE1 := Lib.hid he1
  have HE2 := Lib.hid he2
  have HEE := Lib.hid hee
  have HLE := Lib.hid le
  have HLQ := Lib.hid lq
  have HLT := Lib.hid lt
  obtain ⟨an1, cn1, rfl, hx⟩ := hn1
  have HXn1 := Lib.hid hx
  clear hx
  obtain ⟨an2, cn2, rfl, hx⟩ := hn2
  have HXn2 := Lib.hid hx
  clear hx
  obtain ⟨ac1, cc1, rfl, hx⟩ := hc1
  have HXc1 := Lib.hid hx
  clear hx
  obtain ⟨ac2, cc2, rfl, hx⟩ := hc2
  have HXc2 := Lib.hid hx
  clear hx
  obtain ⟨as1, cs1, rfl, hx⟩ := hs1
  have HXs1 := Lib.hid hx
  clear hx
  obtain ⟨as2, cs2, rfl, hx⟩ := hs2
  have HXs2 := Lib.hid hx
  clear hx
  obtain ⟨ab1, cb1, rfl, hx⟩ := hb1
  have HXb1 := Lib.hid hx
  clear hx
  obtain ⟨ab2, cb2, rfl, hx⟩ := hb2
  have HXb2 := Lib.hid hx
  clear hx
  obtain ⟨am1, cm1, rfl, -, -, hx⟩ := hm1
  have HXm1 := Lib.hid hx
  clear hx
  obtain ⟨am2, cm2, rfl, -, -, hx⟩ := hm2
  have HXm2 := Lib.hid hx
  clear hx
  obtain ⟨av1, cv1, rfl, -, -, hx⟩ := hv1
  have HXv1 := Lib.hid hx
  clear hx
  obtain ⟨av2, cv2, rfl, -, -, hx⟩ := hv2
  have HXv2 := Lib.hid hx
  clear hx
  obtain ⟨at1, ct1, rfl, -, -, hx⟩ := ht1
  have HXt1 := Lib.hid hx
  clear hx
  obtain ⟨at2, ct2, rfl, -, -, hx⟩ := ht2
  have HXt2 := Lib.hid hx
  clear hx
  obtain ⟨ae1, ne1, ce1, rfl⟩ := formR he1
  obtain ⟨ae2, ne2, ce2, rfl⟩ := formR he2
  clear he1 he2 hee le lq lt HXt1 HXt2
  go_enter Try.func15, Try.ntmps15
  go_wp2_with fail
  refine (SameRow_true e1 e2 _ _ _ (readsR_below HE1.out (allocs2 _ _ _)) (readsR_below HE2.out (allocs2 _ _ _)) HEE.out HLE.out HLQ.out).mono ?_
  rintro x W ⟨rfl, hbW⟩
  have HK1 := Lib.hid (block_below (new_at2 (w := w) (ob := .cells #[.int .i64 kind, .slice an1 ns.length cn1, .slice ac1 ch.length cc1, .slice as1 si.length cs1, .slice ab1 bo.length cb1, .slice am1 ma.length cm1, .slice ae1 ne1 ce1, .slice av1 ev.length cv1, .string (B bst), .int .i64 bex, .int .i64 bse, .int .i64 bsq, .slice at1 bev.length ct1, .string (B st)] 44) (ob2 := .cells #[.int .i64 kind, .slice an2 ns.length cn2, .slice ac2 ch.length cc2, .slice as2 si.length cs2, .slice ab2 bo.length cb2, .slice am2 ma.length cm2, .slice ae2 ne2 ce2, .slice av2 ev.length cv2, .string (B bst), .int .i64 bex, .int .i64 bse, .int .i64 bsq, .slice at2 bev.length ct2, .string (B st)] 44) rfl) hbW)
  have HK2 := Lib.hid (block_below (new_at (w := w.alloc (.cells #[.int .i64 kind, .slice an1 ns.length cn1, .slice ac1 ch.length cc1, .slice as1 si.length cs1, .slice ab1 bo.length cb1, .slice am1 ma.length cm1, .slice ae1 ne1 ce1, .slice av1 ev.length cv1, .string (B bst), .int .i64 bex, .int .i64 bse, .int .i64 bsq, .slice at1 bev.length ct1, .string (B st)] 44)) (ob := .cells #[.int .i64 kind, .slice an2 ns.length cn2, .slice ac2 ch.length cc2, .slice as2 si.length cs2, .slice ab2 bo.length cb2, .slice am2 ma.length cm2, .slice ae2 ne2 ce2, .slice av2 ev.length cv2, .string (B bst), .int .i64 bex, .int .i64 bse, .int .i64 bsq, .slice at2 bev.length ct2, .string (B st)] 44) (q := w.heap.size + 1) (by simp)) hbW)
  have HB := Lib.hid ((allocs2 w _ _).trans (hbW.mono (by simp; omega)))
  clear hbW
  have HC1 : Hid (∀ j, W.cell? ⟨w.heap.size, j, none⟩ = #[.int .i64 kind, .slice an1 ns.length cn1, .slice ac1 ch.length cc1, .slice as1 si.length cs1, .slice ab1 bo.length cb1, .slice am1 ma.length cm1, .slice ae1 ne1 ce1, .slice av1 ev.length cv1, .string (B bst), .int .i64 bex, .int .i64 bse, .int .i64 bsq, .slice at1 bev.length ct1, .string (B st)][j]?) := Lib.hid fun j => block_cell HK1.out j
  have HC2 : Hid (∀ j, W.cell? ⟨w.heap.size + 1, j, none⟩ = #[.int .i64 kind, .slice an2 ns.length cn2, .slice ac2 ch.length cc2, .slice as2 si.length cs2, .slice ab2 bo.length cb2, .slice am2 ma.length cm2, .slice ae2 ne2 ce2, .slice av2 ev.length cv2, .string (B bst), .int .i64 bex, .int .i64 bse, .int .i64 bsq, .slice at2 bev.length ct2, .string (B st)][j]?) := Lib.hid fun j => block_cell HK2.out j
  clear HK1 HK2
  go_wp2
  go_loopw [5] (fun i wr => ∃ (k q : Nat), i = .int .i64 k ∧ k ≤ ns.length ∧ wr = W.drewN q) (fun i _ => ns.length - (intOf i).toNat)
  case atStart => exact ⟨0, 0, rfl, Nat.zero_le _, rfl⟩
  case round =>
    obtain ⟨kn, qn, rfl, hkn, rfl⟩ := hrel
    have y1 : (W.drewN qn).cell? ⟨w.heap.size, 1, none⟩ = some (.slice an1 ns.length cn1) := (HC1.out 1).trans rfl
    have y2 : (W.drewN qn).cell? ⟨w.heap.size + 1, 1, none⟩ = some (.slice an2 ns.length cn2) := (HC2.out 1).trans rfl
    by_cases hlt : kn < ns.length
    · have hk1 : (kn : Int) < (ns.length : Int) := by omega
      obtain ⟨b1, o1, rfl, g1⟩ := HXn1.out kn hlt
      obtain ⟨b2, o2, rfl, g2⟩ := HXn2.out kn hlt
      have z1 : (W.drewN qn).cell? ⟨b1, o1 + kn, none⟩ = some (.int .i64 ns[kn]) := below_keeps HB.out _ _ g1
      have z2 : (W.drewN qn).cell? ⟨b2, o2 + kn, none⟩ = some (.int .i64 ns[kn]) := below_keeps HB.out _ _ g2
      clear g1 g2
      generalize ns[kn] = z at z1 z2
      go_wp2
      have hS : (W.drewN qn).cell? ⟨w.heap.size, 1, none⟩ = some (.slice (some ⟨b1, o1, none⟩) ns.length cn1) ∧ (W.drewN qn).cell? ⟨w.heap.size + 1, 1, none⟩ = some (.slice (some ⟨b2, o2, none⟩) ns.length cn2) ∧ (W.drewN qn).cell? ⟨b1, o1 + kn, none⟩ = some (.int .i64 z) ∧ (W.drewN qn).cell? ⟨b2, o2 + kn, none⟩ = some (.int .i64 z) ∧ sQuiet W (W.drewN qn) := ⟨y1, y2, z1, z2, _, rfl⟩
      go_region_held3 (fun w' => w'.cell? ⟨w.heap.size, 1, none⟩ = some (.slice (some ⟨b1, o1, none⟩) ns.length cn1) ∧ w'.cell? ⟨w.heap.size + 1, 1, none⟩ = some (.slice (some ⟨b2, o2, none⟩) ns.length cn2) ∧ w'.cell? ⟨b1, o1 + kn, none⟩ = some (.int .i64 z) ∧ w'.cell? ⟨b2, o2 + kn, none⟩ = some (.int .i64 z) ∧ sQuiet W w') (first | assumption | exact S4_drew (by assumption)) (fail)
      rename_i hHeld
      obtain ⟨q9, hq9⟩ := hHeld.2.2.2.2
      clear hHeld hS
      go_wp2
      go_roundw
      case rel => exact ⟨kn + 1, q9, by go_num, by omega, by first | rfl | exact hq9⟩
      case measure => simp [intOf]; omega
    · have hkn2 : ¬ (kn : Int) < (ns.length : Int) := by omega
      clear hlt
      go_wp2
      clear hkn2 hkn
      go_loopw [6] (fun i wr => ∃ (k q : Nat), i = .int .i64 k ∧ k ≤ ch.length ∧ wr = W.drewN q) (fun i _ => ch.length - (intOf i).toNat)
      case atStart => exact ⟨0, qn, rfl, Nat.zero_le _, rfl⟩
      case round =>
        obtain ⟨kc, qc, rfl, hkc, rfl⟩ := hrel
        clear y1 y2
        have y1 : (W.drewN qc).cell? ⟨w.heap.size, 2, none⟩ = some (.slice ac1 ch.length cc1) := (HC1.out 2).trans rfl
        have y2 : (W.drewN qc).cell? ⟨w.heap.size + 1, 2, none⟩ = some (.slice ac2 ch.length cc2) := (HC2.out 2).trans rfl
        by_cases hlt : kc < ch.length
        · have hk1 : (kc : Int) < (ch.length : Int) := by omega
          obtain ⟨b1, o1, rfl, g1⟩ := HXc1.out kc hlt
          obtain ⟨b2, o2, rfl, g2⟩ := HXc2.out kc hlt
          have z1 : (W.drewN qc).cell? ⟨b1, o1 + kc, none⟩ = some (.int .i64 ch[kc]) := below_keeps HB.out _ _ g1
          have z2 : (W.drewN qc).cell? ⟨b2, o2 + kc, none⟩ = some (.int .i64 ch[kc]) := below_keeps HB.out _ _ g2
          clear g1 g2
          generalize ch[kc] = z at z1 z2
          go_wp2
          have hS : (W.drewN qc).cell? ⟨w.heap.size, 2, none⟩ = some (.slice (some ⟨b1, o1, none⟩) ch.length cc1) ∧ (W.drewN qc).cell? ⟨w.heap.size + 1, 2, none⟩ = some (.slice (some ⟨b2, o2, none⟩) ch.length cc2) ∧ (W.drewN qc).cell? ⟨b1, o1 + kc, none⟩ = some (.int .i64 z) ∧ (W.drewN qc).cell? ⟨b2, o2 + kc, none⟩ = some (.int .i64 z) ∧ sQuiet W (W.drewN qc) := ⟨y1, y2, z1, z2, _, rfl⟩
          go_region_held3 (fun w' => w'.cell? ⟨w.heap.size, 2, none⟩ = some (.slice (some ⟨b1, o1, none⟩) ch.length cc1) ∧ w'.cell? ⟨w.heap.size + 1, 2, none⟩ = some (.slice (some ⟨b2, o2, none⟩) ch.length cc2) ∧ w'.cell? ⟨b1, o1 + kc, none⟩ = some (.int .i64 z) ∧ w'.cell? ⟨b2, o2 + kc, none⟩ = some (.int .i64 z) ∧ sQuiet W w') (first | assumption | exact S4_drew (by assumption)) (fail)
          rename_i hHeld
          obtain ⟨q9, hq9⟩ := hHeld.2.2.2.2
          clear hHeld hS
          go_wp2
          go_roundw
          case rel => exact ⟨kc + 1, q9, by go_num, by omega, by first | rfl | exact hq9⟩
          case measure => simp [intOf]; omega
        · have hkc2 : ¬ (kc : Int) < (ch.length : Int) := by omega
          clear hlt
          go_wp2
          clear hkc2 hkc
          go_loopw [7] (fun i wr => ∃ (k q : Nat), i = .int .i64 k ∧ k ≤ si.length ∧ wr = W.drewN q) (fun i _ => si.length - (intOf i).toNat)
          case atStart => exact ⟨0, qc, rfl, Nat.zero_le _, rfl⟩
          case round =>
            obtain ⟨ks, qs, rfl, hks, rfl⟩ := hrel
            clear y1 y2
            have y1 : (W.drewN qs).cell? ⟨w.heap.size, 3, none⟩ = some (.slice as1 si.length cs1) := (HC1.out 3).trans rfl
            have y2 : (W.drewN qs).cell? ⟨w.heap.size + 1, 3, none⟩ = some (.slice as2 si.length cs2) := (HC2.out 3).trans rfl
            by_cases hlt : ks < si.length
            · have hk1 : (ks : Int) < (si.length : Int) := by omega
              obtain ⟨b1, o1, rfl, g1⟩ := HXs1.out ks hlt
              obtain ⟨b2, o2, rfl, g2⟩ := HXs2.out ks hlt
              have z1 : (W.drewN qs).cell? ⟨b1, o1 + ks, none⟩ = some (.int .i64 si[ks]) := below_keeps HB.out _ _ g1
              have z2 : (W.drewN qs).cell? ⟨b2, o2 + ks, none⟩ = some (.int .i64 si[ks]) := below_keeps HB.out _ _ g2
              clear g1 g2
              generalize si[ks] = z at z1 z2
              go_wp2
              have hS : (W.drewN qs).cell? ⟨w.heap.size, 3, none⟩ = some (.slice (some ⟨b1, o1, none⟩) si.length cs1) ∧ (W.drewN qs).cell? ⟨w.heap.size + 1, 3, none⟩ = some (.slice (some ⟨b2, o2, none⟩) si.length cs2) ∧ (W.drewN qs).cell? ⟨b1, o1 + ks, none⟩ = some (.int .i64 z) ∧ (W.drewN qs).cell? ⟨b2, o2 + ks, none⟩ = some (.int .i64 z) ∧ sQuiet W (W.drewN qs) := ⟨y1, y2, z1, z2, _, rfl⟩
              go_region_held3 (fun w' => w'.cell? ⟨w.heap.size, 3, none⟩ = some (.slice (some ⟨b1, o1, none⟩) si.length cs1) ∧ w'.cell? ⟨w.heap.size + 1, 3, none⟩ = some (.slice (some ⟨b2, o2, none⟩) si.length cs2) ∧ w'.cell? ⟨b1, o1 + ks, none⟩ = some (.int .i64 z) ∧ w'.cell? ⟨b2, o2 + ks, none⟩ = some (.int .i64 z) ∧ sQuiet W w') (first | assumption | exact S4_drew (by assumption)) (fail)
              rename_i hHeld
              obtain ⟨q9, hq9⟩ := hHeld.2.2.2.2
              clear hHeld hS
              go_wp2
              go_roundw
              case rel => exact ⟨ks + 1, q9, by go_num, by omega, by first | rfl | exact hq9⟩
              case measure => simp [intOf]; omega
            · have hks2 : ¬ (ks : Int) < (si.length : Int) := by omega
              clear hlt
              go_wp2
              clear hks2 hks
              go_loopw [8] (fun i wr => ∃ (k q : Nat), i = .int .i64 k ∧ k ≤ bo.length ∧ wr = W.drewN q) (fun i _ => bo.length - (intOf i).toNat)
              case atStart => exact ⟨0, qs, rfl, Nat.zero_le _, rfl⟩
              case round =>
                obtain ⟨kb, qb, rfl, hkb, rfl⟩ := hrel
                clear y1 y2
                have y1 : (W.drewN qb).cell? ⟨w.heap.size, 4, none⟩ = some (.slice ab1 bo.length cb1) := (HC1.out 4).trans rfl
                have y2 : (W.drewN qb).cell? ⟨w.heap.size + 1, 4, none⟩ = some (.slice ab2 bo.length cb2) := (HC2.out 4).trans rfl
                by_cases hlt : kb < bo.length
                · have hk1 : (kb : Int) < (bo.length : Int) := by omega
                  obtain ⟨b1, o1, rfl, g1⟩ := HXb1.out kb hlt
                  obtain ⟨b2, o2, rfl, g2⟩ := HXb2.out kb hlt
                  have z1 : (W.drewN qb).cell? ⟨b1, o1 + kb, none⟩ = some (.int .i64 bo[kb]) := below_keeps HB.out _ _ g1
                  have z2 : (W.drewN qb).cell? ⟨b2, o2 + kb, none⟩ = some (.int .i64 bo[kb]) := below_keeps HB.out _ _ g2
                  clear g1 g2
                  generalize bo[kb] = z at z1 z2
                  go_wp2
                  have hS : (W.drewN qb).cell? ⟨w.heap.size, 4, none⟩ = some (.slice (some ⟨b1, o1, none⟩) bo.length cb1) ∧ (W.drewN qb).cell? ⟨w.heap.size + 1, 4, none⟩ = some (.slice (some ⟨b2, o2, none⟩) bo.length cb2) ∧ (W.drewN qb).cell? ⟨b1, o1 + kb, none⟩ = some (.int .i64 z) ∧ (W.drewN qb).cell? ⟨b2, o2 + kb, none⟩ = some (.int .i64 z) ∧ sQuiet W (W.drewN qb) := ⟨y1, y2, z1, z2, _, rfl⟩
                  go_region_held3 (fun w' => w'.cell? ⟨w.heap.size, 4, none⟩ = some (.slice (some ⟨b1, o1, none⟩) bo.length cb1) ∧ w'.cell? ⟨w.heap.size + 1, 4, none⟩ = some (.slice (some ⟨b2, o2, none⟩) bo.length cb2) ∧ w'.cell? ⟨b1, o1 + kb, none⟩ = some (.int .i64 z) ∧ w'.cell? ⟨b2, o2 + kb, none⟩ = some (.int .i64 z) ∧ sQuiet W w') (first | assumption | exact S4_drew (by assumption)) (fail)
                  rename_i hHeld
                  obtain ⟨q9, hq9⟩ := hHeld.2.2.2.2
                  clear hHeld hS
                  go_wp2
                  go_roundw
                  case rel => exact ⟨kb + 1, q9, by go_num, by omega, by first | rfl | exact hq9⟩
                  case measure => simp [intOf]; omega
                · have hkb2 : ¬ (kb : Int) < (bo.length : Int) := by omega
                  clear hlt
                  go_wp2
                  clear hkb2 hkb
                  go_loopw [9] (fun i wr => ∃ (k q : Nat), i = .int .i64 k ∧ k ≤ ma.length ∧ wr = W.drewN q) (fun i _ => ma.length - (intOf i).toNat)
                  case atStart => exact ⟨0, qb, rfl, Nat.zero_le _, rfl⟩
                  case round =>
                    obtain ⟨km, qm, rfl, hkm, rfl⟩ := hrel
                    clear y1 y2
                    have y1 : (W.drewN qm).cell? ⟨w.heap.size, 5, none⟩ = some (.slice am1 ma.length cm1) := (HC1.out 5).trans rfl
                    have y2 : (W.drewN qm).cell? ⟨w.heap.size + 1, 5, none⟩ = some (.slice am2 ma.length cm2) := (HC2.out 5).trans rfl
                    by_cases hlt : km < ma.length
                    · have hk1 : (km : Int) < (ma.length : Int) := by omega
                      obtain ⟨b1, o1, rfl, g1, g3⟩ := HXm1.out km hlt
                      obtain ⟨b2, o2, rfl, g2, g4⟩ := HXm2.out km hlt
                      have z1 : (W.drewN qm).cell? ⟨b1, o1 + km * 2, none⟩ = some (.int .i64 ma[km].1) := below_keeps HB.out _ _ g1
                      have z2 : (W.drewN qm).cell? ⟨b1, o1 + km * 2 + 1, none⟩ = some (.int .i64 ma[km].2) := below_keeps HB.out _ _ g3
                      have z3 : (W.drewN qm).cell? ⟨b2, o2 + km * 2, none⟩ = some (.int .i64 ma[km].1) := below_keeps HB.out _ _ g2
                      have z4 : (W.drewN qm).cell? ⟨b2, o2 + km * 2 + 1, none⟩ = some (.int .i64 ma[km].2) := below_keeps HB.out _ _ g4
                      clear g1 g2 g3 g4
                      generalize ma[km] = z at z1 z2 z3 z4
                      obtain ⟨u1, u2⟩ := z
                      dsimp only at z1 z2 z3 z4
                      go_wp2
                      have hS : (W.drewN qm).cell? ⟨w.heap.size, 5, none⟩ = some (.slice (some ⟨b1, o1, none⟩) ma.length cm1) ∧ (W.drewN qm).cell? ⟨w.heap.size + 1, 5, none⟩ = some (.slice (some ⟨b2, o2, none⟩) ma.length cm2) ∧ (W.drewN qm).cell? ⟨b1, o1 + km * 2, none⟩ = some (.int .i64 u1) ∧ (W.drewN qm).cell? ⟨b1, o1 + km * 2 + 1, none⟩ = some (.int .i64 u2) ∧ (W.drewN qm).cell? ⟨b2, o2 + km * 2, none⟩ = some (.int .i64 u1) ∧ (W.drewN qm).cell? ⟨b2, o2 + km * 2 + 1, none⟩ = some (.int .i64 u2) ∧ sQuiet W (W.drewN qm) := ⟨y1, y2, z1, z2, z3, z4, _, rfl⟩
                      go_region_held3 (fun w' => w'.cell? ⟨w.heap.size, 5, none⟩ = some (.slice (some ⟨b1, o1, none⟩) ma.length cm1) ∧ w'.cell? ⟨w.heap.size + 1, 5, none⟩ = some (.slice (some ⟨b2, o2, none⟩) ma.length cm2) ∧ w'.cell? ⟨b1, o1 + km * 2, none⟩ = some (.int .i64 u1) ∧ w'.cell? ⟨b1, o1 + km * 2 + 1, none⟩ = some (.int .i64 u2) ∧ w'.cell? ⟨b2, o2 + km * 2, none⟩ = some (.int .i64 u1) ∧ w'.cell? ⟨b2, o2 + km * 2 + 1, none⟩ = some (.int .i64 u2) ∧ sQuiet W w') (first | assumption | exact S6_drew (by assumption)) (fail)
                      rename_i hHeld
                      obtain ⟨q9, hq9⟩ := hHeld.2.2.2.2.2.2
                      clear hHeld hS
                      go_wp2
                      go_roundw
                      case rel => exact ⟨km + 1, q9, by go_num, by omega, by first | rfl | exact hq9⟩
                      case measure => simp [intOf]; omega
                    · have hkm2 : ¬ (km : Int) < (ma.length : Int) := by omega
                      clear hlt
                      go_wp2
                      clear hkm2 hkm
                      go_loopw [10] (fun i wr => ∃ (k q : Nat), i = .int .i64 k ∧ k ≤ ev.length ∧ wr = W.drewN q) (fun i _ => ev.length - (intOf i).toNat)
                      case atStart => exact ⟨0, qm, rfl, Nat.zero_le _, rfl⟩
                      case round =>
                        obtain ⟨kv, qv, rfl, hkv, rfl⟩ := hrel
                        clear y1 y2
                        have y1 : (W.drewN qv).cell? ⟨w.heap.size, 7, none⟩ = some (.slice av1 ev.length cv1) := (HC1.out 7).trans rfl
                        have y2 : (W.drewN qv).cell? ⟨w.heap.size + 1, 7, none⟩ = some (.slice av2 ev.length cv2) := (HC2.out 7).trans rfl
                        by_cases hlt : kv < ev.length
                        · have hk1 : (kv : Int) < (ev.length : Int) := by omega
                          obtain ⟨b1, o1, rfl, g1, g3⟩ := HXv1.out kv hlt
                          obtain ⟨b2, o2, rfl, g2, g4⟩ := HXv2.out kv hlt
                          have z1 : (W.drewN qv).cell? ⟨b1, o1 + kv * 2, none⟩ = some (.string (B ev[kv].1)) := below_keeps HB.out _ _ g1
                          have z2 : (W.drewN qv).cell? ⟨b1, o1 + kv * 2 + 1, none⟩ = some (.string (B ev[kv].2)) := below_keeps HB.out _ _ g3
                          have z3 : (W.drewN qv).cell? ⟨b2, o2 + kv * 2, none⟩ = some (.string (B ev[kv].1)) := below_keeps HB.out _ _ g2
                          have z4 : (W.drewN qv).cell? ⟨b2, o2 + kv * 2 + 1, none⟩ = some (.string (B ev[kv].2)) := below_keeps HB.out _ _ g4
                          clear g1 g2 g3 g4
                          generalize ev[kv] = z at z1 z2 z3 z4
                          obtain ⟨u1, u2⟩ := z
                          dsimp only at z1 z2 z3 z4
                          go_wp2
                          have hS : (W.drewN qv).cell? ⟨w.heap.size, 7, none⟩ = some (.slice (some ⟨b1, o1, none⟩) ev.length cv1) ∧ (W.drewN qv).cell? ⟨w.heap.size + 1, 7, none⟩ = some (.slice (some ⟨b2, o2, none⟩) ev.length cv2) ∧ (W.drewN qv).cell? ⟨b1, o1 + kv * 2, none⟩ = some (.string (B u1)) ∧ (W.drewN qv).cell? ⟨b1, o1 + kv * 2 + 1, none⟩ = some (.string (B u2)) ∧ (W.drewN qv).cell? ⟨b2, o2 + kv * 2, none⟩ = some (.string (B u1)) ∧ (W.drewN qv).cell? ⟨b2, o2 + kv * 2 + 1, none⟩ = some (.string (B u2)) ∧ sQuiet W (W.drewN qv) := ⟨y1, y2, z1, z2, z3, z4, _, rfl⟩
                          go_region_held3 (fun w' => w'.cell? ⟨w.heap.size, 7, none⟩ = some (.slice (some ⟨b1, o1, none⟩) ev.length cv1) ∧ w'.cell? ⟨w.heap.size + 1, 7, none⟩ = some (.slice (some ⟨b2, o2, none⟩) ev.length cv2) ∧ w'.cell? ⟨b1, o1 + kv * 2, none⟩ = some (.string (B u1)) ∧ w'.cell? ⟨b1, o1 + kv * 2 + 1, none⟩ = some (.string (B u2)) ∧ w'.cell? ⟨b2, o2 + kv * 2, none⟩ = some (.string (B u1)) ∧ w'.cell? ⟨b2, o2 + kv * 2 + 1, none⟩ = some (.string (B u2)) ∧ sQuiet W w') (first | assumption | exact S6_drew (by assumption)) (fail)
                          rename_i hHeld
                          obtain ⟨q9, hq9⟩ := hHeld.2.2.2.2.2.2
                          clear hHeld hS
                          go_wp2
                          go_roundw
                          case rel => exact ⟨kv + 1, q9, by go_num, by omega, by first | rfl | exact hq9⟩
                          case measure => simp [intOf]; omega
                        · have hkv2 : ¬ (kv : Int) < (ev.length : Int) := by omega
                          clear hlt
                          have d18 : (W.drewN qv).cell? ⟨w.heap.size, 8, none⟩ = some (.string (B bst)) := (HC1.out 8).trans rfl
                          have d19 : (W.drewN qv).cell? ⟨w.heap.size, 9, none⟩ = some (.int .i64 bex) := (HC1.out 9).trans rfl
                          have d110 : (W.drewN qv).cell? ⟨w.heap.size, 10, none⟩ = some (.int .i64 bse) := (HC1.out 10).trans rfl
                          have d111 : (W.drewN qv).cell? ⟨w.heap.size, 11, none⟩ = some (.int .i64 bsq) := (HC1.out 11).trans rfl
                          have d112 : (W.drewN qv).cell? ⟨w.heap.size, 12, none⟩ = some (.slice at1 bev.length ct1) := (HC1.out 12).trans rfl
                          have d28 : (W.drewN qv).cell? ⟨w.heap.size + 1, 8, none⟩ = some (.string (B bst)) := (HC2.out 8).trans rfl
                          have d29 : (W.drewN qv).cell? ⟨w.heap.size + 1, 9, none⟩ = some (.int .i64 bex) := (HC2.out 9).trans rfl
                          have d210 : (W.drewN qv).cell? ⟨w.heap.size + 1, 10, none⟩ = some (.int .i64 bse) := (HC2.out 10).trans rfl
                          have d211 : (W.drewN qv).cell? ⟨w.heap.size + 1, 11, none⟩ = some (.int .i64 bsq) := (HC2.out 11).trans rfl
                          have d212 : (W.drewN qv).cell? ⟨w.heap.size + 1, 12, none⟩ = some (.slice at2 bev.length ct2) := (HC2.out 12).trans rfl
                          have HQ := Lib.hid (same_self ⟨0, 0, ⟨bst, bex, bse, bsq, bev⟩⟩)
                          have HBQ := Lib.hid (below_quiet HB.out ⟨qv, rfl⟩)
                          go_wp2_with fail
                          refine (refSame_at ⟨0, 0, ⟨bst, bex, bse, bsq, bev⟩⟩ ⟨0, 0, ⟨bst, bex, bse, bsq, bev⟩⟩ _ _ true _ (readsE_below HT1.out HBQ.out) (readsE_below HT2.out HBQ.out) HLT.out HQ).mono ?_
                          rintro x w9 ⟨rfl, hb9⟩
                          have HB9 := Lib.hid (HBQ.out.trans (hb9.mono HBQ.out.size))
                          clear hb9
                          go_wp2
                          go_ret
                          exact ⟨rfl, HB9.out⟩
end Go.Proofs.Ytljcgpdjhjkciaa
namespace Go.Proofs.Ytljcgpdjhjkciaa
open Go.RowKit

theorem none_J (w : World) : ReadsJ w (.slice none 0 0) [] := ⟨none, 0, rfl, fun i hi => by simp at hi⟩
theorem none_M (w : World) : ReadsM w (.slice none 0 0) [] := ⟨none, 0, rfl, Nat.le_refl _, fun _ => rfl, fun i hi => by simp at hi⟩
theorem none_R (w : World) : ReadsR w (.slice none 0 0) [] := ⟨none, 0, rfl, Nat.le_refl _, fun _ => rfl, fun i hi => by simp at hi⟩
theorem none_E (w : World) : ReadsE w (.slice none 0 0) [] := ⟨none, 0, rfl, Nat.le_refl _, fun _ => rfl, fun i hi => by simp at hi⟩
theorem block_J {w : World} {q : Nat} {l : List Int} {t : TypeId} (h : w.heap[q]? = some (.cells (intsA l) t (0, 0))) {n c : Nat} (hn : l.length = n) : ReadsJ w (.slice (some ⟨q, 0, none⟩) n c) l := by
  subst hn
  refine ⟨_, _, rfl, fun i hi => ⟨q, 0, rfl, ?_⟩⟩
  rw [Nat.zero_add, block_cell h i]
  simp [intsA, hi]
theorem same_beat_ (n1 : Int) (n2 : Int) (n3 : Int) (q1 q2 : Nat) (w : World) (_r1 : MV.Reads w (MV.beat_ n1 n2 n3)) (_r2 : MV.Reads w (MV.beat_ n1 n2 n3)) (_hr : MV.right (MV.beat_ n1 n2 n3) = true) (c1 : w.heap[q1]? = some (.cells (intsA [n1, n2, n3]) 3 (0, 0))) (c2 : w.heap[q2]? = some (.cells (intsA [n1, n2, n3]) 3 (0, 0))) :
    Calls Try.prog 15 #[.agg (MV.flat q1 (MV.beat_ n1 n2 n3)), .agg (MV.flat q2 (MV.beat_ n1 n2 n3))] w fun r w' => r = .returned (.bool true) ∧ Below w.heap.size w w' := by
  exact Same7_true 1 [n1, n2, n3] [] [] [] [] [] [] [] ⟨[], 0, 0, 0, []⟩ [] _ _ _ _ _ _ _ _ _ _ _ _ _ _ _ _ w (block_J c1 rfl) (block_J c2 rfl) (none_J _) (none_J _) (none_J _) (none_J _) (none_J _) (none_J _) (none_M _) (none_M _) (none_R _) (none_R _) (none_E _) (none_E _) (none_E _) (none_E _) rfl (by simp) (by simp) (by simp) (by simp) (by simp) (by simp) (by simp) (by simp) (by simp)
theorem same_join_ (n1 : Int) (n2 : Int) (q1 q2 : Nat) (w : World) (_r1 : MV.Reads w (MV.join_ n1 n2)) (_r2 : MV.Reads w (MV.join_ n1 n2)) (_hr : MV.right (MV.join_ n1 n2) = true) (c1 : w.heap[q1]? = some (.cells (intsA [n1, n2]) 3 (0, 0))) (c2 : w.heap[q2]? = some (.cells (intsA [n1, n2]) 3 (0, 0))) :
    Calls Try.prog 15 #[.agg (MV.flat q1 (MV.join_ n1 n2)), .agg (MV.flat q2 (MV.join_ n1 n2))] w fun r w' => r = .returned (.bool true) ∧ Below w.heap.size w w' := by
  exact Same7_true 2 [n1, n2] [] [] [] [] [] [] [] ⟨[], 0, 0, 0, []⟩ [] _ _ _ _ _ _ _ _ _ _ _ _ _ _ _ _ w (block_J c1 rfl) (block_J c2 rfl) (none_J _) (none_J _) (none_J _) (none_J _) (none_J _) (none_J _) (none_M _) (none_M _) (none_R _) (none_R _) (none_E _) (none_E _) (none_E _) (none_E _) rfl (by simp) (by simp) (by simp) (by simp) (by simp) (by simp) (by simp) (by simp) (by simp)
theorem same_lease_ (n1 : Int) (n2 : Int) (q1 q2 : Nat) (w : World) (_r1 : MV.Reads w (MV.lease_ n1 n2)) (_r2 : MV.Reads w (MV.lease_ n1 n2)) (_hr : MV.right (MV.lease_ n1 n2) = true) (c1 : w.heap[q1]? = some (.cells (intsA [n1, n2]) 3 (0, 0))) (c2 : w.heap[q2]? = some (.cells (intsA [n1, n2]) 3 (0, 0))) :
    Calls Try.prog 15 #[.agg (MV.flat q1 (MV.lease_ n1 n2)), .agg (MV.flat q2 (MV.lease_ n1 n2))] w fun r w' => r = .returned (.bool true) ∧ Below w.heap.size w w' := by
  exact Same7_true 3 [n1, n2] [] [] [] [] [] [] [] ⟨[], 0, 0, 0, []⟩ [] _ _ _ _ _ _ _ _ _ _ _ _ _ _ _ _ w (block_J c1 rfl) (block_J c2 rfl) (none_J _) (none_J _) (none_J _) (none_J _) (none_J _) (none_J _) (none_M _) (none_M _) (none_R _) (none_R _) (none_E _) (none_E _) (none_E _) (none_E _) rfl (by simp) (by simp) (by simp) (by simp) (by simp) (by simp) (by simp) (by simp) (by simp)
theorem same_view_ (n1 : Int) (l1 : List Int) (l2 : List Int) (l3 : List Int) (v1 : Value) (v2 : Value) (v3 : Value) (yv1 : Value) (yv2 : Value) (yv3 : Value) (q1 q2 : Nat) (w : World) (r1 : MV.Reads w (MV.view_ n1 l1 v1 l2 v2 l3 v3)) (r2 : MV.Reads w (MV.view_ n1 l1 yv1 l2 yv2 l3 yv3)) (hr : MV.right (MV.view_ n1 l1 v1 l2 v2 l3 v3) = true) (c1 : w.heap[q1]? = some (.cells (intsA [n1]) 3 (0, 0))) (c2 : w.heap[q2]? = some (.cells (intsA [n1]) 3 (0, 0))) :
    Calls Try.prog 15 #[.agg (MV.flat q1 (MV.view_ n1 l1 v1 l2 v2 l3 v3)), .agg (MV.flat q2 (MV.view_ n1 l1 yv1 l2 yv2 l3 yv3))] w fun r w' => r = .returned (.bool true) ∧ Below w.heap.size w w' := by
  have h1 : l1.length ≤ 6 := by
    have h := List.all_eq_true.1 hr (.c l1) (by simp [MV.parts])
    simp only [M.rightP, Bool.and_eq_true, decide_eq_true_eq] at h
    exact h.1
  have h2 : l2.length ≤ 6 := by
    have h := List.all_eq_true.1 hr (.c l2) (by simp [MV.parts])
    simp only [M.rightP, Bool.and_eq_true, decide_eq_true_eq] at h
    exact h.1
  have h3 : l3.length ≤ 6 := by
    have h := List.all_eq_true.1 hr (.c l3) (by simp [MV.parts])
    simp only [M.rightP, Bool.and_eq_true, decide_eq_true_eq] at h
    exact h.1
  exact Same7_true 4 [n1] l1 l2 l3 [] [] [] [] ⟨[], 0, 0, 0, []⟩ [] _ _ _ _ _ _ _ _ _ _ _ _ _ _ _ _ w (block_J c1 rfl) (block_J c2 rfl) (readsJ_I r1.1) (readsJ_I r2.1) (readsJ_I r1.2.1) (readsJ_I r2.2.1) (readsJ_I r1.2.2) (readsJ_I r2.2.2) (none_M _) (none_M _) (none_R _) (none_R _) (none_E _) (none_E _) (none_E _) (none_E _) rfl (by simp) (by omega) (by omega) (by omega) (by simp) (by simp) (by simp) (by simp) (by simp)
theorem same_where_ (n1 : Int) (q1 q2 : Nat) (w : World) (_r1 : MV.Reads w (MV.where_ n1)) (_r2 : MV.Reads w (MV.where_ n1)) (_hr : MV.right (MV.where_ n1) = true) (c1 : w.heap[q1]? = some (.cells (intsA [n1]) 3 (0, 0))) (c2 : w.heap[q2]? = some (.cells (intsA [n1]) 3 (0, 0))) :
    Calls Try.prog 15 #[.agg (MV.flat q1 (MV.where_ n1)), .agg (MV.flat q2 (MV.where_ n1))] w fun r w' => r = .returned (.bool true) ∧ Below w.heap.size w w' := by
  exact Same7_true 5 [n1] [] [] [] [] [] [] [] ⟨[], 0, 0, 0, []⟩ [] _ _ _ _ _ _ _ _ _ _ _ _ _ _ _ _ w (block_J c1 rfl) (block_J c2 rfl) (none_J _) (none_J _) (none_J _) (none_J _) (none_J _) (none_J _) (none_M _) (none_M _) (none_R _) (none_R _) (none_E _) (none_E _) (none_E _) (none_E _) rfl (by simp) (by simp) (by simp) (by simp) (by simp) (by simp) (by simp) (by simp) (by simp)
theorem same_have_ (n1 : Int) (n2 : Int) (n3 : Int) (l1 : List R.Mk) (v1 : Value) (yv1 : Value) (q1 q2 : Nat) (w : World) (r1 : MV.Reads w (MV.have_ n1 n2 n3 l1 v1)) (r2 : MV.Reads w (MV.have_ n1 n2 n3 l1 yv1)) (hr : MV.right (MV.have_ n1 n2 n3 l1 v1) = true) (c1 : w.heap[q1]? = some (.cells (intsA [n1, n2, n3]) 3 (0, 0))) (c2 : w.heap[q2]? = some (.cells (intsA [n1, n2, n3]) 3 (0, 0))) :
    Calls Try.prog 15 #[.agg (MV.flat q1 (MV.have_ n1 n2 n3 l1 v1)), .agg (MV.flat q2 (MV.have_ n1 n2 n3 l1 yv1))] w fun r w' => r = .returned (.bool true) ∧ Below w.heap.size w w' := by
  have hp : M.rightP (.m l1) = true := by
    have h := List.all_eq_true.1 hr (.m l1) (by simp [MV.parts])
    exact h
  simp only [M.rightP, Bool.and_eq_true, decide_eq_true_eq] at hp
  exact Same7_true 6 [n1, n2, n3] [] [] [] l1 [] [] [] ⟨[], 0, 0, 0, []⟩ [] _ _ _ _ _ _ _ _ _ _ _ _ _ _ _ _ w (block_J c1 rfl) (block_J c2 rfl) (none_J _) (none_J _) (none_J _) (none_J _) (none_J _) (none_J _) r1 r2 (none_R _) (none_R _) (none_E _) (none_E _) (none_E _) (none_E _) rfl (by simp) (by simp) (by simp) (by simp) (by omega) (by simp) (by simp) (by simp) (by simp)
theorem same_logs_ (n1 : Int) (n2 : Int) (n3 : Int) (n4 : Int) (n5 : Int) (n6 : Int) (l1 : List EV) (v1 : Value) (yl1 : List EV) (yv1 : Value) (q1 q2 : Nat) (w : World) (hee : ensOf l1 = ensOf yl1) (r1 : MV.Reads w (MV.logs_ n1 n2 n3 n4 n5 n6 l1 v1)) (r2 : MV.Reads w (MV.logs_ n1 n2 n3 n4 n5 n6 yl1 yv1)) (hr : MV.right (MV.logs_ n1 n2 n3 n4 n5 n6 l1 v1) = true) (c1 : w.heap[q1]? = some (.cells (intsA [n1, n2, n3, n4, n5, n6]) 3 (0, 0))) (c2 : w.heap[q2]? = some (.cells (intsA [n1, n2, n3, n4, n5, n6]) 3 (0, 0))) :
    Calls Try.prog 15 #[.agg (MV.flat q1 (MV.logs_ n1 n2 n3 n4 n5 n6 l1 v1)), .agg (MV.flat q2 (MV.logs_ n1 n2 n3 n4 n5 n6 yl1 yv1))] w fun r w' => r = .returned (.bool true) ∧ Below w.heap.size w w' := by
  have hp : M.rightP (.e (ensOf l1)) = true := by
    have h := List.all_eq_true.1 hr (.e (ensOf l1)) (by simp [MV.parts])
    exact h
  simp only [M.rightP, Bool.and_eq_true, decide_eq_true_eq, List.all_eq_true] at hp
  have hl : l1.length ≤ 8 := by rw [← ensOf_len]; exact hp.1
  have hq : ∀ x ∈ yl1, x.1.b.events.length ≤ 1000000 := fun x hx => by
    have h1 : x.1 ∈ ensOf yl1 := List.mem_map.2 ⟨x, hx, rfl⟩
    rw [← hee] at h1
    have h2 := (E.fits_inv (R.right_iff.1 (hp.2 _ h1)).2.2.2.2).2.1
    omega
  exact Same7_true 7 [n1, n2, n3, n4, n5, n6] [] [] [] [] l1 yl1 [] ⟨[], 0, 0, 0, []⟩ [] _ _ _ _ _ _ _ _ _ _ _ _ _ _ _ _ w (block_J c1 rfl) (block_J c2 rfl) (none_J _) (none_J _) (none_J _) (none_J _) (none_J _) (none_J _) (none_M _) (none_M _) r1.1 r2.1 (none_E _) (none_E _) (none_E _) (none_E _) hee (by simp) (by simp) (by simp) (by simp) (by simp) (by omega) (by simp) (by simp) hq
theorem same_ack_ (n1 : Int) (n2 : Int) (n3 : Int) (q1 q2 : Nat) (w : World) (_r1 : MV.Reads w (MV.ack_ n1 n2 n3)) (_r2 : MV.Reads w (MV.ack_ n1 n2 n3)) (_hr : MV.right (MV.ack_ n1 n2 n3) = true) (c1 : w.heap[q1]? = some (.cells (intsA [n1, n2, n3]) 3 (0, 0))) (c2 : w.heap[q2]? = some (.cells (intsA [n1, n2, n3]) 3 (0, 0))) :
    Calls Try.prog 15 #[.agg (MV.flat q1 (MV.ack_ n1 n2 n3)), .agg (MV.flat q2 (MV.ack_ n1 n2 n3))] w fun r w' => r = .returned (.bool true) ∧ Below w.heap.size w w' := by
  exact Same7_true 8 [n1, n2, n3] [] [] [] [] [] [] [] ⟨[], 0, 0, 0, []⟩ [] _ _ _ _ _ _ _ _ _ _ _ _ _ _ _ _ w (block_J c1 rfl) (block_J c2 rfl) (none_J _) (none_J _) (none_J _) (none_J _) (none_J _) (none_J _) (none_M _) (none_M _) (none_R _) (none_R _) (none_E _) (none_E _) (none_E _) (none_E _) rfl (by simp) (by simp) (by simp) (by simp) (by simp) (by simp) (by simp) (by simp) (by simp)
theorem same_ask_ (n1 : Int) (n2 : Int) (n3 : Int) (n4 : Int) (q1 q2 : Nat) (w : World) (_r1 : MV.Reads w (MV.ask_ n1 n2 n3 n4)) (_r2 : MV.Reads w (MV.ask_ n1 n2 n3 n4)) (_hr : MV.right (MV.ask_ n1 n2 n3 n4) = true) (c1 : w.heap[q1]? = some (.cells (intsA [n1, n2, n3, n4]) 3 (0, 0))) (c2 : w.heap[q2]? = some (.cells (intsA [n1, n2, n3, n4]) 3 (0, 0))) :
    Calls Try.prog 15 #[.agg (MV.flat q1 (MV.ask_ n1 n2 n3 n4)), .agg (MV.flat q2 (MV.ask_ n1 n2 n3 n4))] w fun r w' => r = .returned (.bool true) ∧ Below w.heap.size w w' := by
  exact Same7_true 9 [n1, n2, n3, n4] [] [] [] [] [] [] [] ⟨[], 0, 0, 0, []⟩ [] _ _ _ _ _ _ _ _ _ _ _ _ _ _ _ _ w (block_J c1 rfl) (block_J c2 rfl) (none_J _) (none_J _) (none_J _) (none_J _) (none_J _) (none_J _) (none_M _) (none_M _) (none_R _) (none_R _) (none_E _) (none_E _) (none_E _) (none_E _) rfl (by simp) (by simp) (by simp) (by simp) (by simp) (by simp) (by simp) (by simp) (by simp)
theorem same_told_ (n1 : Int) (n2 : Int) (n3 : Int) (n4 : Int) (q1 q2 : Nat) (w : World) (_r1 : MV.Reads w (MV.told_ n1 n2 n3 n4)) (_r2 : MV.Reads w (MV.told_ n1 n2 n3 n4)) (_hr : MV.right (MV.told_ n1 n2 n3 n4) = true) (c1 : w.heap[q1]? = some (.cells (intsA [n1, n2, n3, n4]) 3 (0, 0))) (c2 : w.heap[q2]? = some (.cells (intsA [n1, n2, n3, n4]) 3 (0, 0))) :
    Calls Try.prog 15 #[.agg (MV.flat q1 (MV.told_ n1 n2 n3 n4)), .agg (MV.flat q2 (MV.told_ n1 n2 n3 n4))] w fun r w' => r = .returned (.bool true) ∧ Below w.heap.size w w' := by
  exact Same7_true 10 [n1, n2, n3, n4] [] [] [] [] [] [] [] ⟨[], 0, 0, 0, []⟩ [] _ _ _ _ _ _ _ _ _ _ _ _ _ _ _ _ w (block_J c1 rfl) (block_J c2 rfl) (none_J _) (none_J _) (none_J _) (none_J _) (none_J _) (none_J _) (none_M _) (none_M _) (none_R _) (none_R _) (none_E _) (none_E _) (none_E _) (none_E _) rfl (by simp) (by simp) (by simp) (by simp) (by simp) (by simp) (by simp) (by simp) (by simp)
theorem same_append_ (n1 : Int) (bt : E.Bat) (v1 : Value) (yv1 : Value) (q1 q2 : Nat) (w : World) (r1 : MV.Reads w (MV.append_ n1 bt v1)) (r2 : MV.Reads w (MV.append_ n1 bt yv1)) (hr : MV.right (MV.append_ n1 bt v1) = true) (c1 : w.heap[q1]? = some (.cells (intsA [n1]) 3 (0, 0))) (c2 : w.heap[q2]? = some (.cells (intsA [n1]) 3 (0, 0))) :
    Calls Try.prog 15 #[.agg (MV.flat q1 (MV.append_ n1 bt v1)), .agg (MV.flat q2 (MV.append_ n1 bt yv1))] w fun r w' => r = .returned (.bool true) ∧ Below w.heap.size w w' := by
  have hp : M.rightP (.b bt) = true := by
    have h := List.all_eq_true.1 hr (.b bt) (by simp [MV.parts])
    exact h
  simp only [M.rightP, decide_eq_true_eq] at hp
  have hl := (E.fits_inv hp).2.1
  exact Same7_true 11 [n1] [] [] [] [] [] [] [] bt [] _ _ _ _ _ _ _ _ _ _ _ _ _ _ _ _ w (block_J c1 rfl) (block_J c2 rfl) (none_J _) (none_J _) (none_J _) (none_J _) (none_J _) (none_J _) (none_M _) (none_M _) (none_R _) (none_R _) (none_E _) (none_E _) r1.1 r2.1 rfl (by simp) (by simp) (by simp) (by simp) (by simp) (by simp) (by simp) (by omega) (by simp)
theorem same_read_ (n1 : Int) (n2 : Int) (s : List UInt8) (q1 q2 : Nat) (w : World) (_r1 : MV.Reads w (MV.read_ n1 n2 s)) (_r2 : MV.Reads w (MV.read_ n1 n2 s)) (_hr : MV.right (MV.read_ n1 n2 s) = true) (c1 : w.heap[q1]? = some (.cells (intsA [n1, n2]) 3 (0, 0))) (c2 : w.heap[q2]? = some (.cells (intsA [n1, n2]) 3 (0, 0))) :
    Calls Try.prog 15 #[.agg (MV.flat q1 (MV.read_ n1 n2 s)), .agg (MV.flat q2 (MV.read_ n1 n2 s))] w fun r w' => r = .returned (.bool true) ∧ Below w.heap.size w w' := by
  exact Same7_true 12 [n1, n2] [] [] [] [] [] [] [] ⟨[], 0, 0, 0, []⟩ s _ _ _ _ _ _ _ _ _ _ _ _ _ _ _ _ w (block_J c1 rfl) (block_J c2 rfl) (none_J _) (none_J _) (none_J _) (none_J _) (none_J _) (none_J _) (none_M _) (none_M _) (none_R _) (none_R _) (none_E _) (none_E _) (none_E _) (none_E _) rfl (by simp) (by simp) (by simp) (by simp) (by simp) (by simp) (by simp) (by simp) (by simp)
theorem same_reply_ (n1 : Int) (n2 : Int) (n3 : Int) (n4 : Int) (n5 : Int) (n6 : Int) (q1 q2 : Nat) (w : World) (_r1 : MV.Reads w (MV.reply_ n1 n2 n3 n4 n5 n6)) (_r2 : MV.Reads w (MV.reply_ n1 n2 n3 n4 n5 n6)) (_hr : MV.right (MV.reply_ n1 n2 n3 n4 n5 n6) = true) (c1 : w.heap[q1]? = some (.cells (intsA [n1, n2, n3, n4, n5, n6]) 3 (0, 0))) (c2 : w.heap[q2]? = some (.cells (intsA [n1, n2, n3, n4, n5, n6]) 3 (0, 0))) :
    Calls Try.prog 15 #[.agg (MV.flat q1 (MV.reply_ n1 n2 n3 n4 n5 n6)), .agg (MV.flat q2 (MV.reply_ n1 n2 n3 n4 n5 n6))] w fun r w' => r = .returned (.bool true) ∧ Below w.heap.size w w' := by
  exact Same7_true 13 [n1, n2, n3, n4, n5, n6] [] [] [] [] [] [] [] ⟨[], 0, 0, 0, []⟩ [] _ _ _ _ _ _ _ _ _ _ _ _ _ _ _ _ w (block_J c1 rfl) (block_J c2 rfl) (none_J _) (none_J _) (none_J _) (none_J _) (none_J _) (none_J _) (none_M _) (none_M _) (none_R _) (none_R _) (none_E _) (none_E _) (none_E _) (none_E _) rfl (by simp) (by simp) (by simp) (by simp) (by simp) (by simp) (by simp) (by simp) (by simp)
theorem same_result_ (n1 : Int) (n2 : Int) (n3 : Int) (l1 : List E.Ev) (v1 : Value) (yv1 : Value) (q1 q2 : Nat) (w : World) (r1 : MV.Reads w (MV.result_ n1 n2 n3 l1 v1)) (r2 : MV.Reads w (MV.result_ n1 n2 n3 l1 yv1)) (hr : MV.right (MV.result_ n1 n2 n3 l1 v1) = true) (c1 : w.heap[q1]? = some (.cells (intsA [n1, n2, n3]) 3 (0, 0))) (c2 : w.heap[q2]? = some (.cells (intsA [n1, n2, n3]) 3 (0, 0))) :
    Calls Try.prog 15 #[.agg (MV.flat q1 (MV.result_ n1 n2 n3 l1 v1)), .agg (MV.flat q2 (MV.result_ n1 n2 n3 l1 yv1))] w fun r w' => r = .returned (.bool true) ∧ Below w.heap.size w w' := by
  have hp : M.rightP (.v l1) = true := by
    have h := List.all_eq_true.1 hr (.v l1) (by simp [MV.parts])
    exact h
  simp only [M.rightP, Bool.and_eq_true, decide_eq_true_eq] at hp
  exact Same7_true 14 [n1, n2, n3] [] [] [] [] [] [] l1 ⟨[], 0, 0, 0, []⟩ [] _ _ _ _ _ _ _ _ _ _ _ _ _ _ _ _ w (block_J c1 rfl) (block_J c2 rfl) (none_J _) (none_J _) (none_J _) (none_J _) (none_J _) (none_J _) (none_M _) (none_M _) (none_R _) (none_R _) r1.1 r2.1 (none_E _) (none_E _) rfl (by simp) (by simp) (by simp) (by simp) (by simp) (by simp) (by omega) (by simp) (by simp)
theorem same_flat (m m2 : MV) (q1 q2 : Nat) (w : World) (hk : m2.kind = m.kind) (hp : m2.parts = m.parts) (r1 : m.Reads w) (r2 : m2.Reads w) (hr : m.right = true) (c1 : w.heap[q1]? = some (.cells (intsA m.nums) 3 (0, 0))) (c2 : w.heap[q2]? = some (.cells (intsA m2.nums) 3 (0, 0))) :
    Calls Try.prog 15 #[.agg (m.flat q1), .agg (m2.flat q2)] w fun r w' => r = .returned (.bool true) ∧ Below w.heap.size w w' := by
  cases m with
  | beat_ n1 n2 n3 =>
    cases m2 <;> (try (simp [MV.kind] at hk; done))
    rename_i yn1 yn2 yn3
    simp only [MV.parts, List.cons.injEq, M.Pt.n.injEq, and_true] at hp
    obtain ⟨rfl, rfl, rfl⟩ := hp
    exact same_beat_ yn1 yn2 yn3  q1 q2 w r1 r2 hr c1 c2
  | join_ n1 n2 =>
    cases m2 <;> (try (simp [MV.kind] at hk; done))
    rename_i yn1 yn2
    simp only [MV.parts, List.cons.injEq, M.Pt.n.injEq, and_true] at hp
    obtain ⟨rfl, rfl⟩ := hp
    exact same_join_ yn1 yn2  q1 q2 w r1 r2 hr c1 c2
  | lease_ n1 n2 =>
    cases m2 <;> (try (simp [MV.kind] at hk; done))
    rename_i yn1 yn2
    simp only [MV.parts, List.cons.injEq, M.Pt.n.injEq, and_true] at hp
    obtain ⟨rfl, rfl⟩ := hp
    exact same_lease_ yn1 yn2  q1 q2 w r1 r2 hr c1 c2
  | view_ n1 l1 v1 l2 v2 l3 v3 =>
    cases m2 <;> (try (simp [MV.kind] at hk; done))
    rename_i yn1 yl1 yv1 yl2 yv2 yl3 yv3
    simp only [MV.parts, List.cons.injEq, M.Pt.n.injEq, M.Pt.c.injEq, and_true] at hp
    obtain ⟨rfl, rfl, rfl, rfl⟩ := hp
    exact same_view_ yn1 yl1 yl2 yl3 v1 v2 v3 yv1 yv2 yv3 q1 q2 w r1 r2 hr c1 c2
  | where_ n1 =>
    cases m2 <;> (try (simp [MV.kind] at hk; done))
    rename_i yn1
    simp only [MV.parts, List.cons.injEq, M.Pt.n.injEq, and_true] at hp
    obtain rfl := hp
    exact same_where_ yn1  q1 q2 w r1 r2 hr c1 c2
  | have_ n1 n2 n3 l1 v1 =>
    cases m2 <;> (try (simp [MV.kind] at hk; done))
    rename_i yn1 yn2 yn3 yl1 yv1
    simp only [MV.parts, List.cons.injEq, M.Pt.n.injEq, M.Pt.m.injEq, and_true] at hp
    obtain ⟨rfl, rfl, rfl, rfl⟩ := hp
    exact same_have_ yn1 yn2 yn3 yl1 v1 yv1 q1 q2 w r1 r2 hr c1 c2
  | logs_ n1 n2 n3 n4 n5 n6 l1 v1 =>
    cases m2 <;> (try (simp [MV.kind] at hk; done))
    rename_i yn1 yn2 yn3 yn4 yn5 yn6 yl1 yv1
    simp only [MV.parts, List.cons.injEq, M.Pt.n.injEq, M.Pt.e.injEq, and_true] at hp
    obtain ⟨rfl, rfl, rfl, rfl, rfl, rfl, hee⟩ := hp
    exact same_logs_ yn1 yn2 yn3 yn4 yn5 yn6 l1 v1 yl1 yv1 q1 q2 w hee.symm r1 r2 hr c1 c2
  | ack_ n1 n2 n3 =>
    cases m2 <;> (try (simp [MV.kind] at hk; done))
    rename_i yn1 yn2 yn3
    simp only [MV.parts, List.cons.injEq, M.Pt.n.injEq, and_true] at hp
    obtain ⟨rfl, rfl, rfl⟩ := hp
    exact same_ack_ yn1 yn2 yn3  q1 q2 w r1 r2 hr c1 c2
  | ask_ n1 n2 n3 n4 =>
    cases m2 <;> (try (simp [MV.kind] at hk; done))
    rename_i yn1 yn2 yn3 yn4
    simp only [MV.parts, List.cons.injEq, M.Pt.n.injEq, and_true] at hp
    obtain ⟨rfl, rfl, rfl, rfl⟩ := hp
    exact same_ask_ yn1 yn2 yn3 yn4  q1 q2 w r1 r2 hr c1 c2
  | told_ n1 n2 n3 n4 =>
    cases m2 <;> (try (simp [MV.kind] at hk; done))
    rename_i yn1 yn2 yn3 yn4
    simp only [MV.parts, List.cons.injEq, M.Pt.n.injEq, and_true] at hp
    obtain ⟨rfl, rfl, rfl, rfl⟩ := hp
    exact same_told_ yn1 yn2 yn3 yn4  q1 q2 w r1 r2 hr c1 c2
  | append_ n1 bt v1 =>
    cases m2 <;> (try (simp [MV.kind] at hk; done))
    rename_i yn1 ybt yv1
    simp only [MV.parts, List.cons.injEq, M.Pt.n.injEq, M.Pt.b.injEq, and_true] at hp
    obtain ⟨rfl, rfl⟩ := hp
    exact same_append_ yn1 ybt v1 yv1 q1 q2 w r1 r2 hr c1 c2
  | read_ n1 n2 s =>
    cases m2 <;> (try (simp [MV.kind] at hk; done))
    rename_i yn1 yn2 ys
    simp only [MV.parts, List.cons.injEq, M.Pt.n.injEq, M.Pt.s.injEq, and_true] at hp
    obtain ⟨rfl, rfl, rfl⟩ := hp
    exact same_read_ yn1 yn2 ys  q1 q2 w r1 r2 hr c1 c2
  | reply_ n1 n2 n3 n4 n5 n6 =>
    cases m2 <;> (try (simp [MV.kind] at hk; done))
    rename_i yn1 yn2 yn3 yn4 yn5 yn6
    simp only [MV.parts, List.cons.injEq, M.Pt.n.injEq, and_true] at hp
    obtain ⟨rfl, rfl, rfl, rfl, rfl, rfl⟩ := hp
    exact same_reply_ yn1 yn2 yn3 yn4 yn5 yn6  q1 q2 w r1 r2 hr c1 c2
  | result_ n1 n2 n3 l1 v1 =>
    cases m2 <;> (try (simp [MV.kind] at hk; done))
    rename_i yn1 yn2 yn3 yl1 yv1
    simp only [MV.parts, List.cons.injEq, M.Pt.n.injEq, M.Pt.v.injEq, and_true] at hp
    obtain ⟨rfl, rfl, rfl, rfl⟩ := hp
    exact same_result_ yn1 yn2 yn3 yl1 v1 yv1 q1 q2 w r1 r2 hr c1 c2
theorem flat_form (m : MV) (q : Nat) (w : World) (hr : m.Reads w) : ∃ (xk : Int) (xa1 : Option Addr) (xb1 xc1 : Nat) (xa2 : Option Addr) (xb2 xc2 : Nat) (xa3 : Option Addr) (xb3 xc3 : Nat) (xa4 : Option Addr) (xb4 xc4 : Nat) (xa5 : Option Addr) (xb5 xc5 : Nat) (xa6 : Option Addr) (xb6 xc6 : Nat) (xa7 : Option Addr) (xb7 xc7 : Nat) (xs1 : ByteArray) (xn1 xn2 xn3 : Int) (xa8 : Option Addr) (xb8 xc8 : Nat) (xs2 : ByteArray), m.flat q = #[.int .i64 xk, .slice xa1 xb1 xc1, .slice xa2 xb2 xc2, .slice xa3 xb3 xc3, .slice xa4 xb4 xc4, .slice xa5 xb5 xc5, .slice xa6 xb6 xc6, .slice xa7 xb7 xc7, .string xs1, .int .i64 xn1, .int .i64 xn2, .int .i64 xn3, .slice xa8 xb8 xc8, .string xs2] := by
  cases m with
  | beat_ n1 n2 n3 =>
    exact ⟨_, _, _, _, _, _, _, _, _, _, _, _, _, _, _, _, _, _, _, _, _, _, _, _, _, _, _, _, _, _, rfl⟩
  | join_ n1 n2 =>
    exact ⟨_, _, _, _, _, _, _, _, _, _, _, _, _, _, _, _, _, _, _, _, _, _, _, _, _, _, _, _, _, _, rfl⟩
  | lease_ n1 n2 =>
    exact ⟨_, _, _, _, _, _, _, _, _, _, _, _, _, _, _, _, _, _, _, _, _, _, _, _, _, _, _, _, _, _, rfl⟩
  | view_ n1 l1 v1 l2 v2 l3 v3 =>
    obtain ⟨a1, b1, c1, rfl⟩ := formI hr.1
    obtain ⟨a2, b2, c2, rfl⟩ := formI hr.2.1
    obtain ⟨a3, b3, c3, rfl⟩ := formI hr.2.2
    exact ⟨_, _, _, _, _, _, _, _, _, _, _, _, _, _, _, _, _, _, _, _, _, _, _, _, _, _, _, _, _, _, rfl⟩
  | where_ n1 =>
    exact ⟨_, _, _, _, _, _, _, _, _, _, _, _, _, _, _, _, _, _, _, _, _, _, _, _, _, _, _, _, _, _, rfl⟩
  | have_ n1 n2 n3 l1 v1 =>
    obtain ⟨a1, b1, c1, rfl⟩ := formM hr
    exact ⟨_, _, _, _, _, _, _, _, _, _, _, _, _, _, _, _, _, _, _, _, _, _, _, _, _, _, _, _, _, _, rfl⟩
  | logs_ n1 n2 n3 n4 n5 n6 l1 v1 =>
    obtain ⟨a1, b1, c1, rfl⟩ := formR hr.1
    exact ⟨_, _, _, _, _, _, _, _, _, _, _, _, _, _, _, _, _, _, _, _, _, _, _, _, _, _, _, _, _, _, rfl⟩
  | ack_ n1 n2 n3 =>
    exact ⟨_, _, _, _, _, _, _, _, _, _, _, _, _, _, _, _, _, _, _, _, _, _, _, _, _, _, _, _, _, _, rfl⟩
  | ask_ n1 n2 n3 n4 =>
    exact ⟨_, _, _, _, _, _, _, _, _, _, _, _, _, _, _, _, _, _, _, _, _, _, _, _, _, _, _, _, _, _, rfl⟩
  | told_ n1 n2 n3 n4 =>
    exact ⟨_, _, _, _, _, _, _, _, _, _, _, _, _, _, _, _, _, _, _, _, _, _, _, _, _, _, _, _, _, _, rfl⟩
  | append_ n1 bt v1 =>
    obtain ⟨a1, b1, c1, rfl⟩ := readsE_form hr.1
    exact ⟨_, _, _, _, _, _, _, _, _, _, _, _, _, _, _, _, _, _, _, _, _, _, _, _, _, _, _, _, _, _, rfl⟩
  | read_ n1 n2 s =>
    exact ⟨_, _, _, _, _, _, _, _, _, _, _, _, _, _, _, _, _, _, _, _, _, _, _, _, _, _, _, _, _, _, rfl⟩
  | reply_ n1 n2 n3 n4 n5 n6 =>
    exact ⟨_, _, _, _, _, _, _, _, _, _, _, _, _, _, _, _, _, _, _, _, _, _, _, _, _, _, _, _, _, _, rfl⟩
  | result_ n1 n2 n3 l1 v1 =>
    obtain ⟨a1, b1, c1, rfl⟩ := readsE_form hr.1
    exact ⟨_, _, _, _, _, _, _, _, _, _, _, _, _, _, _, _, _, _, _, _, _, _, _, _, _, _, _, _, _, _, rfl⟩
end Go.Proofs.Ytljcgpdjhjkciaa
