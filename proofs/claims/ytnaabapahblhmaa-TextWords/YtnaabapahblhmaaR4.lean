/-
  Walks of the document's answer to layer 1 (package bucketlineref1): value, inner.
-/
import Derived.Test.YtnaabapahblhmaaR3
import Derived.Test.YtnaabapahblhmaaM1
namespace Go.Proofs.Ytnaabapahblhmaa
open Go.RowKit
attribute [local go_sem] ext_Bd ext_Bl ext_Bt toList_B add_B size_B get_Bt

/-- The value of a digit from place k on; -1: it is none. -/
def valFrom (c : UInt8) : Nat → Nat → Int
  | 0, _ => -1
  | f + 1, k => if T.hexD k = c then k else valFrom c f (k + 1)
def valV (c : UInt8) : Int := valFrom c 16 0
theorem valFrom_bd (c : UInt8) : ∀ f k, f + k = 16 → -1 ≤ valFrom c f k ∧ valFrom c f k ≤ 15
  | 0, k, _ => by simp [valFrom]
  | f + 1, k, h => by
    unfold valFrom
    split
    · omega
    · exact valFrom_bd c f (k + 1) (by omega)
theorem valV_bd (c : UInt8) : -1 ≤ valV c ∧ valV c ≤ 15 := valFrom_bd c 16 0 rfl
theorem valV_hexD (n : Nat) (h : n < 16) : valV (T.hexD n) = n := by
  match n, h with
  | 0, _ | 1, _ | 2, _ | 3, _ | 4, _ | 5, _ | 6, _ | 7, _ | 8, _ | 9, _ | 10, _ | 11, _ | 12, _ | 13, _ | 14, _ | 15, _ => decide +kernel
  | n + 16, h => omega
theorem hex_at (n : Nat) (h : n < hexS.size) : ((⟨#[48, 49, 50, 51, 52, 53, 54, 55, 56, 57, 97, 98, 99, 100, 101, 102]⟩ : ByteArray)[n]'h).toNat = (T.hexD n).toNat := congrArg UInt8.toNat (hex_get n h)

set_option maxHeartbeats 1000000 in
theorem value_l (c : UInt8) (w : World) : Calls Try.prog 42 #[.int .u8 c.toNat] w fun e w' => e = .returned (.int .i64 (valV c)) ∧ w = w' := by
  go_enter Try.func42, Try.ntmps42
  go_wp2
  go_loop [3] (fun i => ∃ k f : Nat, i = .int .i64 k ∧ f + k = 16 ∧ valV c = valFrom c f k) (fun i => 16 - (intOf i).toNat)
  case atStart => exact ⟨0, 16, rfl, rfl, rfl⟩
  case round =>
    obtain ⟨k, f, rfl, hf, hv⟩ := hrel
    have HV := Lib.hid hv; clear hv
    by_cases hk : k < 16
    · obtain ⟨g, rfl⟩ : ∃ g, f = g + 1 := ⟨f - 1, by omega⟩
      have hat := hex_at k hk
      have hi1 : (k : Int) < 16 := by omega
      by_cases he : T.hexD k = c
      · have heb : (((T.hexD k).toNat : Int) == (c.toNat : Int)) = true := by rw [he]; simp
        have HE := Lib.hid (HV.out.trans (by unfold valFrom; rw [if_pos he]))
        clear he
        go_wp2
        go_ret
        exact ⟨ret_int HE.out.symm, rfl⟩
      · have hne : (T.hexD k).toNat ≠ c.toNat := fun h => he (UInt8.toNat_inj.1 h)
        have heb : (((T.hexD k).toNat : Int) == (c.toNat : Int)) = false := by rw [beq_eq_false_iff_ne]; omega
        have HE := Lib.hid (HV.out.trans (by conv => lhs; unfold valFrom; rw [if_neg he]))
        clear he hne
        go_wp2
        go_round
        case rel => exact ⟨k + 1, g, by go_num, by omega, HE.out⟩
        case measure => simp [intOf]; omega
    · obtain rfl : f = 0 := by omega
      go_wp2
      go_ret
      exact ⟨ret_int HV.out.symm, rfl⟩
end Go.Proofs.Ytnaabapahblhmaa
