/-
  Walks of the document's answer: Right, Follows, Marks.
-/
import Derived.Test.YtljcgpdjhjkciaaGreatRecordRight
import Derived.Deep.RegionHeld3
import Derived.Deep.AppendLies
namespace Go.Proofs.YtljcgpdjhjkciaaGreat
open Go.RowKit
attribute [local go_sem] ext_Bd ext_Bl ext_Bt toList_B add_B size_B get_Bt

set_option maxHeartbeats 1000000 in
set_option maxRecDepth 100000 in
theorem refRight6_at (e : R.En) (v : Value) (r : Bool) (w : World) (hv : ReadsE w v e.b.events) (hs : E.Tiny e.b) (H : Hid (R.right e = r)) :
    Calls Tryz.prog 17 #[enV e v] w fun x w' => x = .returned (.bool r) ∧ Below w.heap.size w w' := by
  obtain ⟨f, HF⟩ : ∃ n, Hid (E.fits e.b = n) := ⟨_, Lib.hid rfl⟩
  have HR : Hid (r = (decide (1 ≤ e.pos ∧ e.pos ≤ 274877906944) && (decide (1 ≤ e.epoch ∧ e.epoch ≤ 274877906944) && decide (f = 0)))) := Lib.hid (by rw [← H.out, ← HF.out]; exact right_parts e)
  clear H
  have HS := Lib.hid hs
  have HV := Lib.hid hv
  have hB : ∀ o, Below w.heap.size w (w.alloc o) := fun o => (Below.refl _ w).alloc (Nat.le_refl _) o
  obtain ⟨a, cap, rfl, _⟩ := hv
  clear hs
  obtain ⟨pos, ep, b⟩ := e
  dsimp only at *
  by_cases h1 : ¬ (1 ≤ pos)
  · have HE := Lib.hid (show r = false by rw [HR.out, decide_eq_false (fun h => h1 h.1)]; rfl)
    have h1d : decide (1 ≤ pos) = false := decide_eq_false h1
    clear h1
    go_enter Tryz.func17, Tryz.ntmps17
    go_wp2
    go_ret
    rw [HE.out]
    exact ⟨rfl, hB _⟩
  replace h1 := Decidable.of_not_not h1
  by_cases h2 : ¬ (pos ≤ 274877906944)
  · have HE := Lib.hid (show r = false by rw [HR.out, decide_eq_false (fun h => h2 h.2)]; rfl)
    have h2d : decide (pos ≤ 274877906944) = false := decide_eq_false h2
    clear h2
    go_enter Tryz.func17, Tryz.ntmps17
    go_wp2
    go_ret
    rw [HE.out]
    exact ⟨rfl, hB _⟩
  replace h2 := Decidable.of_not_not h2
  by_cases h3 : ¬ (1 ≤ ep)
  · have HE := Lib.hid (show r = false by rw [HR.out, decide_eq_false (p := 1 ≤ ep ∧ ep ≤ 274877906944) (fun h => h3 h.1)]; simp)
    have h3d : decide (1 ≤ ep) = false := decide_eq_false h3
    clear h3
    go_enter Tryz.func17, Tryz.ntmps17
    go_wp2
    go_ret
    rw [HE.out]
    exact ⟨rfl, hB _⟩
  replace h3 := Decidable.of_not_not h3
  by_cases h4 : ¬ (ep ≤ 274877906944)
  · have HE := Lib.hid (show r = false by rw [HR.out, decide_eq_false (p := 1 ≤ ep ∧ ep ≤ 274877906944) (fun h => h4 h.2)]; simp)
    have h4d : decide (ep ≤ 274877906944) = false := decide_eq_false h4
    clear h4
    go_enter Tryz.func17, Tryz.ntmps17
    go_wp2
    go_ret
    rw [HE.out]
    exact ⟨rfl, hB _⟩
  replace h4 := Decidable.of_not_not h4
  have HR2 : Hid (r = decide (f = 0)) := Lib.hid (by rw [HR.out, decide_eq_true ⟨h1, h2⟩, decide_eq_true ⟨h3, h4⟩]; rfl)
  go_enter Tryz.func17, Tryz.ntmps17
  go_wp2_with fail
  refine (refFits_at b _ f _ (readsE_below HV.out (hB _)) HS.out.1 HS.out.2 HF).mono ?_
  rintro x w2 ⟨rfl, hb2⟩
  have hb := below_box hb2
  clear hb2
  by_cases h0 : f = 0
  · subst h0
    go_wp2
    go_ret
    rw [HR2.out]
    exact ⟨rfl, hb⟩
  · have hfi : ((f : Int) == 0) = false := beq_eq_false_iff_ne.2 (by omega)
    have HE := Lib.hid (show r = false by rw [HR2.out, decide_eq_false h0])
    clear h0
    go_wp2
    go_ret
    rw [HE.out]
    exact ⟨rfl, hb⟩

theorem follows_drop {l : List R.En} {k : Nat} (h : k < l.length) (p q : Int) : R.follows (l.drop k) p q = (R.right l[k] && (decide (l[k].pos = p + 1) && (decide (q ≤ l[k].epoch) && R.follows (l.drop (k + 1)) l[k].pos l[k].epoch))) := by
  rw [List.drop_eq_getElem_cons h, R.follows]

end Go.Proofs.YtljcgpdjhjkciaaGreat
