/-
  Walks of package num, and of the document's answer to it: Fixed and TakeFixed.
-/
import Derived.Test.YtmfhipjceeijmaaBase
import Derived.Laws.BitsAllLaws
import Derived.IntWalk
namespace Go.Proofs.Ytmfhipjceeijmaa
open Go.RowKit
attribute [local go_sem] ext_Bd ext_Bl ext_Bt toList_B add_B size_B get_Bt

theorem fix_cells (m : Nat) (h : m < 4294967296) : [Value.int .u8 ((m : Int) / 16777216), .int .u8 ((m : Int) / 65536 % 256), .int .u8 ((m : Int) / 256 % 256), .int .u8 ((m : Int) % 256)] = Lib.byteCells (N.fixL m) := by
  have e0 := N.u8_nat (n := m / 16777216 % 256) (by omega)
  have e1 := N.u8_nat (n := m / 65536 % 256) (by omega)
  have e2 := N.u8_nat (n := m / 256 % 256) (by omega)
  have e3 := N.u8_nat (n := m % 256) (by omega)
  simp only [Lib.byteCells, N.fixL, List.map_cons, List.map_nil, e0, e1, e2, e3]
  have f0 : (m : Int) / 16777216 = ((m / 16777216 % 256 : Nat) : Int) := by omega
  have f1 : (m : Int) / 65536 % 256 = ((m / 65536 % 256 : Nat) : Int) := by omega
  have f2 : (m : Int) / 256 % 256 = ((m / 256 % 256 : Nat) : Int) := by omega
  have f3 : (m : Int) % 256 = ((m % 256 : Nat) : Int) := by omega
  rw [f0, f1, f2, f3]
theorem fix_conv (m : Nat) (w : World) (h : m < 4294967296) :
    (convert 53 9 (.slice (some ⟨w.heap.size, 0, none⟩) 4 4)).run Try.prog (w.alloc (.cells #[.int .u8 ((m : Int) / 16777216), .int .u8 ((m : Int) / 65536 % 256), .int .u8 ((m : Int) / 256 % 256), .int .u8 ((m : Int) % 256)] 5)) =
      .ok (.string (B (N.fixL m))) (w.alloc (.cells #[.int .u8 ((m : Int) / 16777216), .int .u8 ((m : Int) / 65536 % 256), .int .u8 ((m : Int) / 256 % 256), .int .u8 ((m : Int) % 256)] 5)) := by
  have ho := World.ownsRow_lit (base := w.heap.size) (e := 5) (size := 1) w #[.int .u8 ((m : Int) / 16777216), .int .u8 ((m : Int) / 65536 % 256), .int .u8 ((m : Int) / 256 % 256), .int .u8 ((m : Int) % 256)] 4 (Nat.le_refl _) (by decide) rfl
  exact conv_owned (l := N.fixL m) (by rw [← fix_cells m h]; exact ho)

set_option maxHeartbeats 1000000 in
set_option maxRecDepth 100000 in
theorem Fixed_l (m : Nat) (w : World) (h : m < 4294967296) :
    Calls Try.prog 46 #[.int .u32 m] w fun e w' => e = .returned (.string (B (N.fixL m))) ∧ Below w.heap.size w w' := by
  have hcv := fix_conv m w h
  go_enter Try.func46, Try.ntmps46
  go_wp2
  go_ret
  exact ⟨rfl, (Below.refl _ w).alloc (Nat.le_refl _) _⟩
theorem or8 (n b : Nat) (hn : n < 16777216) (hb : b < 256) : bits .or .u32 ((n : Int) * 256) (b : Int) = ((n * 256 + b : Nat) : Int) := by
  have e : (n : Int) * 256 = ((n * 256 : Nat) : Int) := by omega
  rw [e, u32_or_nat _ _ (by omega) (by omega)]
  have := Nat.two_pow_add_eq_or_of_lt (i := 8) (b := b) (by omega) n
  rw [show n * 256 = 2 ^ 8 * n by omega, ← this]

/-- The value of the first bytes. -/
def fixP (l : List UInt8) : Nat → Nat
  | 0 => 0
  | k + 1 => fixP l k * 256 + N.bt l k
theorem fixP_lt (l : List UInt8) : ∀ k, fixP l k < 256 ^ k
  | 0 => by simp [fixP]
  | k + 1 => by
    have := fixP_lt l k
    have := N.bt_lt l k
    simp only [fixP, Nat.pow_succ]; omega
theorem fixP_four (l : List UInt8) : fixP l 4 = N.fixV l := by simp [fixP, N.fixV]

def txRes (l : List UInt8) : Value := if l.length < 4 then .tuple #[.int .u32 0, .string (B []), .int .i64 3] else .tuple #[.int .u32 (N.fixV l), .string (B (l.drop 4)), .int .i64 0]
theorem txRes_bad {l : List UInt8} (h : l.length < 4) : txRes l = .tuple #[.int .u32 0, .string (B []), .int .i64 3] := by rw [txRes, if_pos h]
theorem txRes_ok {l : List UInt8} (h : ¬ l.length < 4) : txRes l = .tuple #[.int .u32 (N.fixV l), .string (B (l.drop 4)), .int .i64 0] := by rw [txRes, if_neg h]

set_option maxHeartbeats 1000000 in
set_option maxRecDepth 100000 in
theorem TakeFixed_l (l : List UInt8) (w : World) (hs : l.length ≤ 100000000) :
    Calls Try.prog 56 #[.string (B l)] w fun e w' => e = .returned (txRes l) ∧ sQuiet w w' := by
  by_cases h4 : l.length < 4
  · have R := Lib.hid (txRes_bad h4)
    go_enter Try.func56, Try.ntmps56
    go_wp2
    go_ret3
    rw [R.out]
    exact ⟨rfl, 0, rfl⟩
  · have R := Lib.hid (txRes_ok h4)
    have hb4 : 4 ≤ (B l).size := by rw [size_B]; omega
    go_enter Try.func56, Try.ntmps56
    go_wp2
    go_loop [5, 10] (fun a i => ∃ k : Nat, a = .int .u32 (fixP l k) ∧ i = .int .i64 k ∧ k ≤ 4) (fun _ i => 4 - (intOf i).toNat)
    case atStart => exact ⟨0, rfl, rfl, by omega⟩
    case round =>
      obtain ⟨k, rfl, rfl, hk⟩ := hrel
      by_cases hk4 : k < 4
      · have hb := N.bt_lt l k
        have hkb : k < (B l).size := by omega
        have hkl : k < l.length := by omega
        have hp : fixP l k < 16777216 := by
          have h1 := fixP_lt l k
          have h2 : 256 ^ k ≤ 256 ^ 3 := Nat.pow_le_pow_right (by omega) (by omega)
          omega
        have hor := or8 (fixP l k) (N.bt l k) hp hb
        have HS := Lib.hid (show fixP l (k + 1) = fixP l k * 256 + N.bt l k from rfl)
        generalize fixP l k = p at *
        go_wp2
        go_round
        case rel => exact ⟨k + 1, by rw [HS.out]; go_num, by go_num, by omega⟩
        case measure => simp [intOf]; omega
      · obtain rfl : k = 4 := by omega
        have HF := Lib.hid (fixP_four l)
        go_wp2
        go_quiet (fail)
        go_wp2
        go_ret3
        rw [R.out, HF.out]
        exact ⟨rfl, _, rfl⟩
end Go.Proofs.Ytmfhipjceeijmaa
