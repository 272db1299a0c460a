/-
  Walks of Same, of package record and of the document's answer.
-/
import Derived.Test.YtfhopgficckjkaaRecordPut
import Derived.Test.YtfhopgficckjkaaEventProg2
namespace Go.Proofs.Ytfhopgficckjkaa
open Go.RowKit
attribute [local go_sem] ext_Bd ext_Bl ext_Bt toList_B add_B size_B get_Bt

def R.same (x y : R.En) : Bool := decide (x.pos = y.pos) && (decide (x.epoch = y.epoch) && E.sameB x.b y.b)

set_option maxHeartbeats 2000000 in
set_option maxRecDepth 100000 in
theorem Same6_at (x y : R.En) (vx vy : Value) (r : Bool) (w : World) (hx : ReadsE w vx x.b.events) (hy : ReadsE w vy y.b.events) (sx : E.Small x.b) (sy : E.Small y.b) (H : Hid (R.same x y = r)) :
    Calls Try.prog 12 #[enV x vx, enV y vy] w fun e w' => e = .returned (.bool r) ∧ Below w.heap.size w w' := by
  obtain ⟨p1, e1, b1⟩ := x
  obtain ⟨p2, e2, b2⟩ := y
  dsimp only at hx hy sx sy ⊢
  obtain ⟨q, HQ⟩ : ∃ q, Hid (E.sameB b1 b2 = q) := ⟨_, Lib.hid rfl⟩
  have HR : Hid (r = (decide (p1 = p2) && (decide (e1 = e2) && q))) := Lib.hid (by rw [← H.out, ← HQ.out]; rfl)
  have HX := Lib.hid hx
  have HY := Lib.hid hy
  have HSX := Lib.hid sx
  have HSY := Lib.hid sy
  obtain ⟨a1, c1, rfl, _⟩ := hx
  obtain ⟨a2, c2, rfl, _⟩ := hy
  have hB : ∀ o1 o2, Below w.heap.size w ((w.alloc o1).alloc o2) := fun o1 o2 => ((Below.refl _ w).alloc (Nat.le_refl _) o1).alloc (by simp) o2
  clear sx sy H
  by_cases h1 : p1 = p2
  · have g1 : (p1 == p2) = true := beq_iff_eq.2 h1
    by_cases h2 : e1 = e2
    · have g2 : (e1 == e2) = true := beq_iff_eq.2 h2
      have HE := Lib.hid (show r = q by rw [HR.out, decide_eq_true h1, decide_eq_true h2]; rfl)
      clear h1 h2
      go_enter Try.func12, Try.ntmps12
      go_wp2_with fail
      refine (ESame_at b1 b2 _ _ q _ (readsE_below HX.out (hB _ _)) (readsE_below HY.out (hB _ _)) HSX.out HSY.out HQ).mono ?_
      rintro x w2 ⟨rfl, hb2⟩
      have HB2 := Lib.hid ((hB _ _).trans (hb2.mono (hB _ _).size))
      clear hb2
      go_wp2
      go_ret
      rw [HE.out]
      exact ⟨rfl, HB2.out⟩
    · have g2 : (e1 == e2) = false := beq_eq_false_iff_ne.2 h2
      have HE := Lib.hid (show r = false by rw [HR.out, decide_eq_false h2]; simp)
      clear h1 h2
      go_enter Try.func12, Try.ntmps12
      go_wp2
      go_ret
      rw [HE.out]
      exact ⟨rfl, hB _ _⟩
  · have g1 : (p1 == p2) = false := beq_eq_false_iff_ne.2 h1
    have HE := Lib.hid (show r = false by rw [HR.out, decide_eq_false h1]; rfl)
    clear h1
    go_enter Try.func12, Try.ntmps12
    go_wp2
    go_ret
    rw [HE.out]
    exact ⟨rfl, hB _ _⟩

theorem allocs4 (w : World) (o1 o2 o3 o4 : Obj) : Below w.heap.size w ((((w.alloc o1).alloc o2).alloc o3).alloc o4) :=
  ((((Below.refl _ w).alloc (Nat.le_refl _) o1).alloc (by simp) o2).alloc (by simp; omega) o3).alloc (by simp; omega) o4
set_option maxHeartbeats 4000000 in
set_option maxRecDepth 100000 in
theorem refSame_head (x y : R.En) (vx vy : Value) (w : World) (hx : ReadsE w vx x.b.events) (hy : ReadsE w vy y.b.events)
    (h : ¬ (x.pos = y.pos ∧ x.epoch = y.epoch ∧ x.b.stream = y.b.stream ∧ x.b.expect = y.b.expect ∧ x.b.session = y.b.session ∧ x.b.seq = y.b.seq ∧ x.b.events.length = y.b.events.length)) :
    Calls Try.prog 13 #[enV x vx, enV y vy] w fun r w' => r = .returned (.bool false) ∧ Below w.heap.size w w' := by
  obtain ⟨p1, e1, ⟨st1, ex1, se1, sq1, ev1⟩⟩ := x
  obtain ⟨p2, e2, ⟨st2, ex2, se2, sq2, ev2⟩⟩ := y
  dsimp only at hx hy h ⊢
  obtain ⟨a1, c1, rfl, _⟩ := hx
  obtain ⟨a2, c2, rfl, _⟩ := hy
  by_cases h1 : ¬ p1 = p2
  · have g : (p1 == p2) = false := beq_eq_false_iff_ne.2 h1
    have gn : (p1 != p2) = true := by simpa using h1
    clear h h1
    go_enter Try.func13, Try.ntmps13
    go_wp2
    all_goals
      go_ret
      exact ⟨rfl, allocs4 _ _ _ _ _⟩
  replace h1 := Decidable.of_not_not h1
  by_cases h2 : ¬ e1 = e2
  · have g : (e1 == e2) = false := beq_eq_false_iff_ne.2 h2
    have gn : (e1 != e2) = true := by simpa using h2
    clear h h2
    subst h1
    go_enter Try.func13, Try.ntmps13
    go_wp2
    all_goals
      go_ret
      exact ⟨rfl, allocs4 _ _ _ _ _⟩
  replace h2 := Decidable.of_not_not h2
  by_cases h3 : ¬ st1 = st2
  · have g : (st1 == st2) = false := beq_eq_false_iff_ne.2 h3
    have gn : (st1 != st2) = true := by simpa using h3
    clear h h3
    subst h1 h2
    go_enter Try.func13, Try.ntmps13
    go_wp2
    all_goals
      go_ret
      exact ⟨rfl, allocs4 _ _ _ _ _⟩
  replace h3 := Decidable.of_not_not h3
  by_cases h4 : ¬ ex1 = ex2
  · have g : (ex1 == ex2) = false := beq_eq_false_iff_ne.2 h4
    have gn : (ex1 != ex2) = true := by simpa using h4
    clear h h4
    subst h1 h2 h3
    go_enter Try.func13, Try.ntmps13
    go_wp2
    all_goals
      go_ret
      exact ⟨rfl, allocs4 _ _ _ _ _⟩
  replace h4 := Decidable.of_not_not h4
  by_cases h5 : ¬ se1 = se2
  · have g : (se1 == se2) = false := beq_eq_false_iff_ne.2 h5
    have gn : (se1 != se2) = true := by simpa using h5
    clear h h5
    subst h1 h2 h3 h4
    go_enter Try.func13, Try.ntmps13
    go_wp2
    all_goals
      go_ret
      exact ⟨rfl, allocs4 _ _ _ _ _⟩
  replace h5 := Decidable.of_not_not h5
  by_cases h6 : ¬ sq1 = sq2
  · have g : (sq1 == sq2) = false := beq_eq_false_iff_ne.2 h6
    have gn : (sq1 != sq2) = true := by simpa using h6
    clear h h6
    subst h1 h2 h3 h4 h5
    go_enter Try.func13, Try.ntmps13
    go_wp2
    all_goals
      go_ret
      exact ⟨rfl, allocs4 _ _ _ _ _⟩
  replace h6 := Decidable.of_not_not h6
  have h7 : ¬ ev1.length = ev2.length := fun h7 => h ⟨h1, h2, h3, h4, h5, h6, h7⟩
  have g7 : ((ev1.length : Int) != (ev2.length : Int)) = true := by simp; omega
  have g8 : (ev1.length != ev2.length) = true := by simpa using h7
  clear h h7
  subst h1 h2 h3 h4 h5 h6
  go_enter Try.func13, Try.ntmps13
  go_wp2
  all_goals
    go_ret
    exact ⟨rfl, allocs4 _ _ _ _ _⟩
end Go.Proofs.Ytfhopgficckjkaa
