/-
  Walks of package crc: dropBit, and halves, which makes the table.
-/
import Derived.Test.YtmfhipjceeijmaaBase
import Derived.Test.YtmfhipjceeijmaaCrcSpec
import Derived.Laws.BitsAllLaws
import Derived.IntWalk
namespace Go.Proofs.Ytmfhipjceeijmaa
open Go.RowKit
attribute [local go_sem] ext_Bd ext_Bl ext_Bt toList_B add_B size_B get_Bt

theorem and1_even {r : Nat} (h : r < 4294967296) (h2 : r % 2 = 0) : (bits BinOp.and IntKind.u32 (r : Int) 1 == 0) = true := by
  have hb := u32_and_nat r 1 h (by omega)
  rw [nat_mask1, h2] at hb
  exact beq_iff_eq.2 hb
theorem and1_odd {r : Nat} (h : r < 4294967296) (h2 : r % 2 = 1) : (bits BinOp.and IntKind.u32 (r : Int) 1 == 0) = false := by
  have hb := u32_and_nat r 1 h (by omega)
  rw [nat_mask1, h2] at hb
  rw [show bits BinOp.and IntKind.u32 (r : Int) 1 = 1 from hb]
  rfl
theorem poly_odd {r : Nat} (h : r < 4294967296) (h2 : r % 2 = 1) : bits BinOp.xor IntKind.u32 ((r : Int) / 2) 3988292384 = ((C.step r : Nat) : Int) := by
  rw [C.step_odd h2]
  exact u32_xor_nat (r / 2) 3988292384 (by omega) (by omega)

set_option maxRecDepth 100000 in
theorem dropBit_c (r : Nat) (w : World) (h : r < 4294967296) :
    Calls Try.prog 81 #[.int .u32 r] w fun e w' => e = .returned (.int .u32 (C.step r : Nat)) ∧ w' = w := by
  by_cases h2 : r % 2 = 0
  · have HS := Lib.hid (C.step_even h2)
    have hb := and1_even h h2
    clear h2 h
    go_enter Try.func81, Try.ntmps81
    go_wp2
    go_ret
    rw [HS.out]
    exact ⟨rfl, rfl⟩
  · have h3 : r % 2 = 1 := by omega
    have HS := Lib.hid (poly_odd h h3)
    have hb := and1_odd h h3
    clear h2 h3 h
    go_enter Try.func81, Try.ntmps81
    go_wp2
    go_ret
    exact ⟨ret_int HS.out, rfl⟩

/-- The table, as far as it is filled. -/
def tabTo (k : Nat) : Array Value := ((List.range 16).map fun i => Value.int .u32 ((if i < k then C.steps 4 i else 0 : Nat) : Int)).toArray
theorem tabTo_set (k : Nat) : (tabTo k).setIfInBounds k (.int .u32 (C.steps 4 k : Nat)) = tabTo (k + 1) := by
  apply Array.ext
  · simp [tabTo]
  · intro i h1 h2
    have hi : i < 16 := by simpa [tabTo] using h2
    by_cases hk : k = i
    · subst hk
      simp [tabTo]
    · have h3 : (i < k + 1) = (i < k) := by simp; omega
      rw [Array.getElem_setIfInBounds (by simpa [tabTo] using hi), if_neg hk]
      simp only [tabTo, List.getElem_toArray, List.getElem_map, List.getElem_range, h3]
theorem tabTo_size (k : Nat) : (tabTo k).size = 16 := by simp [tabTo]
def tab : Array Value := #[.int .u32 0, .int .u32 498536548, .int .u32 997073096, .int .u32 651767980, .int .u32 1994146192, .int .u32 1802195444, .int .u32 1303535960, .int .u32 1342533948, .int .u32 3988292384, .int .u32 4027552580, .int .u32 3604390888, .int .u32 3412177804, .int .u32 2607071920, .int .u32 2262029012, .int .u32 2685067896, .int .u32 3183342108]
theorem tab_none : tabTo 0 = #[.int .u32 0, .int .u32 0, .int .u32 0, .int .u32 0, .int .u32 0, .int .u32 0, .int .u32 0, .int .u32 0, .int .u32 0, .int .u32 0, .int .u32 0, .int .u32 0, .int .u32 0, .int .u32 0, .int .u32 0, .int .u32 0] := by kernel_rfl
theorem tab_full : tabTo 16 = tab := by kernel_rfl
theorem tab_at {i : Nat} (h : i < 16) : tab[i]? = some (.int .u32 (C.steps 4 i : Nat)) := by
  rw [← tab_full]
  simp [tabTo, h]

set_option maxHeartbeats 1000000 in
set_option maxRecDepth 100000 in
theorem halves_c (w : World) :
    Calls Try.prog 67 #[] w fun e w' => e = .returned (.agg tab) ∧ Below w.heap.size w w' := by
  go_enter Try.func67, Try.ntmps67
  go_wp2
  go_loopw [4] (fun i wr => ∃ k : Nat, i = .int .i64 k ∧ k ≤ 16 ∧ wr = (w.alloc (.cells (tabTo 0) 116)).alloc (.cells (tabTo k) 116)) (fun i _ => 16 - (intOf i).toNat)
  case atStart => exact ⟨0, rfl, by omega, rfl⟩
  case round =>
    obtain ⟨k, rfl, hk, rfl⟩ := hrel
    by_cases hlt : k < 16
    · have hkb : (k : Int) < 16 := by omega
      have HT := Lib.hid (tabTo_set k)
      go_wp2
      go_loop [3, 9] (fun r j => ∃ m : Nat, j = .int .i64 m ∧ m ≤ 4 ∧ r = .int .u32 (C.steps m k : Nat)) (fun _ j => 4 - (intOf j).toNat)
      case atStart => exact ⟨0, rfl, by omega, rfl⟩
      case round =>
        obtain ⟨m, rfl, hm, rfl⟩ := hrel
        have hr : C.steps m k < 4294967296 := C.steps_lt m (by omega)
        by_cases hm4 : m < 4
        · have hmb : (m : Int) < 4 := by omega
          have HE := Lib.hid (C.steps_end m k)
          generalize C.steps m k = r at *
          go_wp2_with fail
          refine (dropBit_c r _ hr).mono ?_
          rintro e w1 ⟨rfl, rfl⟩
          go_wp2
          go_round
          case rel => exact ⟨m + 1, by go_num, by omega, by rw [HE.out]⟩
          case measure => simp [intOf]; omega
        · have hm5 : m = 4 := by omega
          subst hm5
          generalize hx : C.steps 4 k = x at *
          clear hx
          have hsz := tabTo_size k
          go_wp2
          go_roundw
          case rel => exact ⟨k + 1, by go_num, by omega, by rw [HT.out]⟩
          case measure => simp [intOf]; omega
    · have hk2 : k = 16 := by omega
      subst hk2
      rw [tab_full, tab, tab_none]
      go_wp2
      refine bodyPost_ret (v := .agg tab) (by simp [results, Try.results67, go_sem, tab]) rfl ⟨rfl, ?_⟩
      exact ((Below.refl _ _).alloc (Nat.le_refl _) _).alloc (by simp) _
end Go.Proofs.Ytmfhipjceeijmaa
