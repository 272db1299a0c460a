/-
  Walks of Right, of package record and of the document's answer.
-/
import Derived.Test.YtljcgpdjhjkciaaGreatRecordArgs
import Derived.Test.YtljcgpdjhjkciaaGreatRecordMore
import Derived.Test.YtljcgpdjhjkciaaGreatEventProg
import Derived.Test.YtljcgpdjhjkciaaGreatEventRef
namespace Go.Proofs.YtljcgpdjhjkciaaGreat
open Go.RowKit
attribute [local go_sem] ext_Bd ext_Bl ext_Bt toList_B add_B size_B get_Bt

set_option maxRecDepth 100000 in
theorem between6_at (n lo hi : Int) (r : Bool) (w : World) (H : Hid (decide (lo ≤ n ∧ n ≤ hi) = r)) :
    Calls Tryz.prog 97 #[.int .i64 n, .int .i64 lo, .int .i64 hi] w fun x w' => x = .returned (.bool r) ∧ w = w' := by
  by_cases h1 : lo ≤ n
  · by_cases h2 : n ≤ hi
    · have HE := Lib.hid (show r = true by rw [← H.out]; exact decide_eq_true ⟨h1, h2⟩)
      go_enter Tryz.func97, Tryz.ntmps97
      go_wp2
      go_ret
      rw [HE.out]
      exact ⟨rfl, rfl⟩
    · have HE := Lib.hid (show r = false by rw [← H.out]; exact decide_eq_false fun h => h2 h.2)
      have h3 : decide (n ≤ hi) = false := decide_eq_false h2
      clear h2
      go_enter Tryz.func97, Tryz.ntmps97
      go_wp2
      go_ret
      rw [HE.out]
      exact ⟨rfl, rfl⟩
  · have HE := Lib.hid (show r = false by rw [← H.out]; exact decide_eq_false fun h => h1 h.1)
    have h3 : decide (lo ≤ n) = false := decide_eq_false h1
    clear h1
    go_enter Tryz.func97, Tryz.ntmps97
    go_wp2
    go_ret
    rw [HE.out]
    exact ⟨rfl, rfl⟩

theorem right_parts (e : R.En) : R.right e = (decide (1 ≤ e.pos ∧ e.pos ≤ 274877906944) && (decide (1 ≤ e.epoch ∧ e.epoch ≤ 274877906944) && decide (E.fits e.b = 0))) := by
  unfold R.right R.large
  simp only [Bool.decide_and, Bool.and_assoc]

set_option maxHeartbeats 1000000 in
set_option maxRecDepth 100000 in
theorem Right6_at (e : R.En) (v : Value) (r : Bool) (w : World) (hv : ReadsE w v e.b.events) (hs : E.Small e.b) (H : Hid (R.right e = r)) :
    Calls Tryz.prog 86 #[enV e v] w fun x w' => x = .returned (.bool r) ∧ Below w.heap.size w w' := by
  obtain ⟨r1, H1⟩ : ∃ n, Hid (decide (1 ≤ e.pos ∧ e.pos ≤ 274877906944) = n) := ⟨_, Lib.hid rfl⟩
  obtain ⟨r2, H2⟩ : ∃ n, Hid (decide (1 ≤ e.epoch ∧ e.epoch ≤ 274877906944) = n) := ⟨_, Lib.hid rfl⟩
  obtain ⟨f, HF⟩ : ∃ n, Hid (E.fits e.b = n) := ⟨_, Lib.hid rfl⟩
  have HR : Hid (r = (r1 && (r2 && decide (f = 0)))) := Lib.hid (by rw [← H.out, ← H1.out, ← H2.out, ← HF.out]; exact right_parts e)
  clear H
  have HS := Lib.hid hs
  have HV := Lib.hid hv
  have hB : ∀ o, Below w.heap.size w (w.alloc o) := fun o => (Below.refl _ w).alloc (Nat.le_refl _) o
  obtain ⟨a, cap, rfl, _⟩ := hv
  clear hs
  go_enter Tryz.func86, Tryz.ntmps86
  go_wp2_with fail
  refine (between6_at e.pos 1 274877906944 r1 _ H1).mono ?_
  rintro x w2 ⟨rfl, rfl⟩
  cases r1
  · go_wp2
    go_ret
    rw [HR.out]
    exact ⟨rfl, hB _⟩
  go_wp2_with fail
  refine (between6_at e.epoch 1 274877906944 r2 _ H2).mono ?_
  rintro x w2 ⟨rfl, rfl⟩
  cases r2
  · go_wp2
    go_ret
    rw [HR.out]
    exact ⟨rfl, hB _⟩
  go_wp2_with fail
  refine (Fits_at e.b _ f _ (readsE_below HV.out (hB _)) HS.out HF).mono ?_
  rintro x w2 ⟨rfl, hb2⟩
  have hb := below_box hb2
  clear hb2
  by_cases h0 : f = 0
  · subst h0
    go_wp2
    go_ret
    rw [HR.out]
    exact ⟨rfl, hb⟩
  · have hfi : ((f : Int) == 0) = false := beq_eq_false_iff_ne.2 (by omega)
    have HE := Lib.hid (show r = false by rw [HR.out, decide_eq_false h0]; rfl)
    clear h0
    go_wp2
    go_ret
    rw [HE.out]
    exact ⟨rfl, hb⟩
end Go.Proofs.YtljcgpdjhjkciaaGreat
