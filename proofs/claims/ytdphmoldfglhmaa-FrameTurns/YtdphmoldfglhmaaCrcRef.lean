/-
  Walks of the document's answer to layer 3 (package bucketlineref3): Update, bit by bit, and Sum.
-/
import Derived.Test.YtdphmoldfglhmaaCrcProg
namespace Go.Proofs.Ytdphmoldfglhmaa
open Go.RowKit
attribute [local go_sem] ext_Bd ext_Bl ext_Bt toList_B add_B size_B get_Bt

theorem and1_even1 {r : Nat} (h : r < 4294967296) (h2 : r % 2 = 0) : bits BinOp.and IntKind.u32 (r : Int) 1 = 0 := by
  have hb := u32_and_nat r 1 h (by omega)
  rw [nat_mask1, h2] at hb
  exact hb
theorem and1_odd1 {r : Nat} (h : r < 4294967296) (h2 : r % 2 = 1) : bits BinOp.and IntKind.u32 (r : Int) 1 = 1 := by
  have hb := u32_and_nat r 1 h (by omega)
  rw [nat_mask1, h2] at hb
  exact hb

set_option maxHeartbeats 1000000 in
set_option maxRecDepth 100000 in
theorem RefUpdate_l (c : Nat) (l : List UInt8) (w : World) (h : c < 4294967296) (hl : l.length ≤ 100000000) :
    Calls Try.prog 31 #[.int .u32 c, .string (B l)] w fun e w' => e = .returned (.int .u32 (C.upd c l : Nat)) ∧ w' = w := by
  have HN := Lib.hid (not_u h)
  have HC := Lib.hid (C.inv_lt h)
  have HU := Lib.hid (show C.upd c l = C.inv (C.reg (C.inv c) l) from rfl)
  clear h
  go_enter Try.func31, Try.ntmps31
  go_wp2
  rw [HN.out]
  generalize C.inv c = r0 at *
  go_loop [5, 6] (fun r i => ∃ k : Nat, i = .int .i64 k ∧ k ≤ l.length ∧ r = .int .u32 (C.reg r0 (l.take k) : Nat)) (fun _ i => l.length - (intOf i).toNat)
  case atStart => exact ⟨0, rfl, by omega, rfl⟩
  case round =>
    obtain ⟨k, rfl, hk, rfl⟩ := hrel
    have hr : C.reg r0 (l.take k) < 4294967296 := C.reg_lt _ HC.out
    by_cases hlt : k < l.length
    · have hkb : (k : Int) < l.length := by omega
      have HE := Lib.hid (C.reg_take r0 hlt)
      have hbt := N.bt_lt l k
      generalize C.reg r0 (l.take k) = r at *
      have hx := u32_xor_nat r (N.bt l k) hr (by omega)
      have HT := Lib.hid (show C.eat r (N.bt l k) = C.steps 8 (r ^^^ N.bt l k) from rfl)
      have hz : r ^^^ N.bt l k < 4294967296 := Nat.xor_lt_two_pow (n := 32) (by omega) (by omega)
      have HBE := Lib.hid (show (l.getD k 0).toNat = N.bt l k from rfl)
      generalize r ^^^ N.bt l k = z at *
      go_wp2
      clear hx hr hbt
      go_loop [5, 7] (fun r j => ∃ m : Nat, j = .int .i64 m ∧ m ≤ 8 ∧ r = .int .u32 (C.steps m z : Nat)) (fun _ j => 8 - (intOf j).toNat)
      case atStart => exact ⟨0, rfl, by omega, rfl⟩
      case round =>
        obtain ⟨m, rfl, hm, rfl⟩ := hrel
        have hy : C.steps m z < 4294967296 := C.steps_lt m hz
        by_cases hm8 : m < 8
        · have hmb : (m : Int) < 8 := by omega
          have HS := Lib.hid (C.steps_end m z)
          generalize C.steps m z = y at *
          by_cases h2 : y % 2 = 0
          · have hb := and1_even1 hy h2
            have HV := Lib.hid (C.step_even h2)
            clear h2
            go_wp2
            go_round
            case rel => exact ⟨m + 1, by go_num, by omega, by rw [HS.out, HV.out]; rfl⟩
            case measure => simp [intOf]; omega
          · have h3 : y % 2 = 1 := by omega
            have hb := and1_odd1 hy h3
            have HV := Lib.hid (poly_odd hy h3)
            clear h2 h3
            go_wp2
            go_round
            case rel => exact ⟨m + 1, by go_num, by omega, by rw [HS.out, HV.out]⟩
            case measure => simp [intOf]; omega
        · have hm9 : m = 8 := by omega
          subst hm9
          clear hy
          have HT2 := HT.out
          rw [← HT2] at *
          have HT3 := Lib.hid HT2
          clear HT2
          go_wp2
          go_round
          case rel => exact ⟨k + 1, by go_num, by omega, by rw [HE.out, HBE.out]⟩
          case measure => simp [intOf]; omega
    · have HF := Lib.hid (show l.take k = l from List.take_of_length_le (by omega))
      rw [HF.out] at hr ⊢
      have HN2 := Lib.hid (not_u hr)
      generalize C.reg r0 l = r at *
      go_wp2
      go_ret
      rw [HU.out]
      exact ⟨ret_int HN2.out, rfl⟩

set_option maxRecDepth 100000 in
theorem RefSum_l (l : List UInt8) (w : World) (hl : l.length ≤ 100000000) :
    Calls Try.prog 23 #[.string (B l)] w fun e w' => e = .returned (.int .u32 (C.upd 0 l : Nat)) ∧ w' = w := by
  go_enter Try.func23, Try.ntmps23
  go_wp2_with fail
  refine (RefUpdate_l 0 l w (by omega) hl).mono ?_
  rintro e w1 ⟨rfl, rfl⟩
  generalize hx : C.upd 0 l = x at *
  have HX := Lib.hid hx; clear hx
  go_wp2
  go_ret
  rw [HX.out]
  exact ⟨rfl, rfl⟩
end Go.Proofs.Ytdphmoldfglhmaa
