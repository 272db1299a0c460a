/-
  The walk of the law SegmentNames over any segment package that keeps its contracts.
-/
import Derived.Test.YtpdnbpihkiijkaaGreatDoorBun29
import Derived.Test.YtpdnbpihkiijkaaGreatDoorBun11
namespace Go.Proofs.YtpdnbpihkiijkaaGreatDoor.G
open Go.RowKit
open D (dP)
attribute [local go_sem] ext_Bd ext_Bl ext_Bt toList_B add_B size_B get_Bt

set_option maxHeartbeats 4000000 in
set_option maxRecDepth 100000 in
theorem names_walk {C : D.DC} (Z : SC C) (z : Int) (s : Tx) (w : World) (hT : Tabs w) (hz : i64B z) (hsm : s.length ≤ 9223372036854775807) :
    Calls Tryz.prog 4 #[.int .i64 z, .string (B s)] w fun x w' => x = .returned (.bool true) ∧ Below w.heap.size w w' := by
  have HZ := Lib.hid hz
  have HT := Lib.hid hT
  clear hz hT
  go_enter Tryz.func4, Tryz.ntmps4
  go_wp2_with fail
  refine (shown9_l Z w).mono ?_
  rintro x w1 ⟨rfl, hb1⟩
  have HB1 := Lib.hid hb1
  clear hb1
  by_cases h2 : 200 < s.length
  · have h2i : (200 : Int) < (s.length : Int) := by omega
    go_wp2
    go_ret
    exact ⟨rfl, HB1.out⟩
  have h2i : ¬ (200 : Int) < (s.length : Int) := by omega
  have HN1 := Lib.hid (Z.name (w := w1) z HZ.out (.inl (HT.out.below HB1.out)))
  have hsl : s.length ≤ 1000 := by omega
  obtain ⟨nm, HNM⟩ : ∃ nm, Hid (nameS z = nm) := ⟨_, Lib.hid rfl⟩
  have hnl : nm.length ≤ 14 := by rw [← HNM.out]; exact name_len z
  rw [HNM.out] at HN1
  go_wp2_with fail
  refine HN1.out.mono ?_
  rintro x w2 ⟨rfl, hb2⟩
  have HB2 := Lib.hid (HB1.out.trans (hb2.mono HB1.out.size))
  have HN2 := Lib.hid (rName_l z w2)
  rw [HNM.out] at HN2
  clear hb2 HB1 HN1
  go_wp2_with fail
  refine HN2.out.mono ?_
  rintro x w3 ⟨rfl, rfl⟩
  have heq : (nm == nm) = true := beq_self_eq_true nm
  go_wp2_with fail
  refine (Z.number (w := w3) s hsl (.inl (HT.out.below HB2.out))).mono ?_
  rintro x w4 ⟨rfl, hb4⟩
  have HB4 := Lib.hid (HB2.out.trans (hb4.mono HB2.out.size))
  clear hb4 HB2 HN2
  go_wp2_with fail
  refine (rNumber_l s w4 hsm).mono ?_
  rintro x w5 ⟨rfl, rfl⟩
  by_cases hr : 1 ≤ z ∧ z ≤ 1073741824
  · have HNE : Hid (nm.isEmpty = false ∧ numS nm = z.toNat) := Lib.hid (by
      rw [← HNM.out]
      refine ⟨?_, num_name hr⟩
      have := name_ne hr
      cases h : nameS z with
      | nil => exact absurd h this
      | cons a b => rfl)
    have hne := HNE.out.1
    have HNU := Lib.hid (Z.number (w := w5) nm (by omega) (.inl (HT.out.below HB4.out)))
    rw [HNE.out.2, Int.toNat_of_nonneg (by omega)] at HNU
    clear hr
    go_wp2_with fail
    refine HNU.out.mono ?_
    rintro x w6 ⟨rfl, hb6⟩
    have HB6 := Lib.hid (HB4.out.trans (hb6.mono HB4.out.size))
    clear hb6
    go_wp2
    go_ret
    exact ⟨rfl, HB6.out⟩
  · have hne : nm = [] := by rw [← HNM.out]; exact name_none hr
    clear hr HNM
    subst hne
    go_wp2
    go_ret
    exact ⟨rfl, HB4.out⟩
end Go.Proofs.YtpdnbpihkiijkaaGreatDoor.G
