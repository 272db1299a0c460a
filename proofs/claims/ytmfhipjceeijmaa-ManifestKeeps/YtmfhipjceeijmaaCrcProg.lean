/-
  Walks of package crc: dropHalf, Update, Sum.
-/
import Derived.Test.YtmfhipjceeijmaaCrcHalves
namespace Go.Proofs.Ytmfhipjceeijmaa
open Go.RowKit
attribute [local go_sem] ext_Bd ext_Bl ext_Bt toList_B add_B size_B get_Bt

theorem half_u {r : Nat} (h : r < 4294967296) : bits BinOp.xor IntKind.u32 ((r : Int) / 16) ((C.steps 4 (r % 16) : Nat) : Int) = ((C.steps 4 r : Nat) : Int) := by
  rw [← C.half r]
  exact u32_xor_nat (r / 16) (C.steps 4 (r % 16)) (by omega) (C.steps_lt 4 (by omega))
theorem not_u {c : Nat} (h : c < 4294967296) : bits BinOp.xor IntKind.u32 IntKind.u32.max (c : Int) = ((C.inv c : Nat) : Int) := by
  have e : IntKind.u32.max = ((4294967295 : Nat) : Int) := by decide
  have e2 : C.inv c = 4294967295 ^^^ c := Nat.xor_comm _ _
  rw [e, e2]
  exact u32_xor_nat 4294967295 c (by omega) h

set_option maxRecDepth 100000 in
theorem dropHalf_c (b r : Nat) (w : World) (h : r < 4294967296) (hc : w.cell? ⟨b, r % 16, none⟩ = some (.int .u32 (C.steps 4 (r % 16) : Nat))) :
    Calls Try.prog 68 #[.pointer (some ⟨b, 0, none⟩), .int .u32 r] w fun e w' => e = .returned (.int .u32 (C.steps 4 r : Nat)) ∧ w' = w := by
  have HH := Lib.hid (half_u h)
  go_enter Try.func68, Try.ntmps68
  go_wp2
  go_ret
  exact ⟨ret_int HH.out, rfl⟩

theorem tab_lit : (#[.int .u32 0, .int .u32 498536548, .int .u32 997073096, .int .u32 651767980, .int .u32 1994146192, .int .u32 1802195444, .int .u32 1303535960, .int .u32 1342533948, .int .u32 3988292384, .int .u32 4027552580, .int .u32 3604390888, .int .u32 3412177804, .int .u32 2607071920, .int .u32 2262029012, .int .u32 2685067896, .int .u32 3183342108] : Array Value) = tab := rfl

set_option maxHeartbeats 1000000 in
set_option maxRecDepth 100000 in
theorem Update_l (c : Nat) (l : List UInt8) (w : World) (h : c < 4294967296) (hl : l.length ≤ 100000000) :
    Calls Try.prog 57 #[.int .u32 c, .string (B l)] w fun e w' => e = .returned (.int .u32 (C.upd c l : Nat)) ∧ Below w.heap.size w w' := by
  have HN := Lib.hid (not_u h)
  have HC := Lib.hid (C.inv_lt h)
  clear h
  go_enter Try.func57, Try.ntmps57
  go_wp2_with fail
  refine (halves_c w).mono ?_
  rintro e w1 ⟨rfl, hb1⟩
  rw [tab]
  go_wp2
  rw [tab_lit, HN.out]
  have hb2 : Below w.heap.size w (w1.alloc (.cells tab 116)) := hb1.alloc hb1.size _
  have hcell : ∀ i, i < 16 → (w1.alloc (.cells tab 116)).cell? ⟨w1.heap.size, i, none⟩ = some (.int .u32 (C.steps 4 i : Nat)) := fun i hi => by
    rw [World.cell?_alloc_new]; exact tab_at hi
  have HB := Lib.hid hb2; clear hb2
  have HCE := Lib.hid hcell; clear hcell
  have HU := Lib.hid (show C.upd c l = C.inv (C.reg (C.inv c) l) from rfl)
  generalize w1.alloc (.cells tab 116) = w2 at *
  generalize w1.heap.size = g at *
  generalize C.inv c = r0 at *
  generalize Value.agg tab = vt at *
  clear hb1
  go_loop [6, 13] (fun r i => ∃ k : Nat, i = .int .i64 k ∧ k ≤ l.length ∧ r = .int .u32 (C.reg r0 (l.take k) : Nat)) (fun _ i => l.length - (intOf i).toNat)
  case atStart => exact ⟨0, rfl, by omega, rfl⟩
  case round =>
    obtain ⟨k, rfl, hk, rfl⟩ := hrel
    have hr : C.reg r0 (l.take k) < 4294967296 := C.reg_lt _ HC.out
    by_cases hlt : k < l.length
    · have hkb : (k : Int) < l.length := by omega
      have HE := Lib.hid (C.reg_take r0 hlt)
      have hbt := N.bt_lt l k
      generalize C.reg r0 (l.take k) = r at *
      have hx := u32_xor_nat r (N.bt l k) hr (by omega)
      have HT := Lib.hid (C.eat_two r (N.bt l k))
      have hz : r ^^^ N.bt l k < 4294967296 := Nat.xor_lt_two_pow (n := 32) (by omega) (by omega)
      have HBE := Lib.hid (show (l.getD k 0).toNat = N.bt l k from rfl)
      generalize r ^^^ N.bt l k = z at *
      go_wp2_with fail
      refine (dropHalf_c g z w2 hz (HCE.out _ (Nat.mod_lt _ (by omega)))).mono ?_
      rintro e1 w3 ⟨rfl, rfl⟩
      have hz2 := C.steps_lt 4 hz
      clear hx
      generalize C.steps 4 z = z2 at *
      go_wp2_with fail
      refine (dropHalf_c g z2 _ hz2 (HCE.out _ (Nat.mod_lt _ (by omega)))).mono ?_
      rintro e1 w3 ⟨rfl, rfl⟩
      go_wp2
      go_round
      case rel => exact ⟨k + 1, by go_num, by omega, by rw [HE.out, HBE.out, HT.out]⟩
      case measure => simp [intOf]; omega
    · have HF := Lib.hid (show l.take k = l from List.take_of_length_le (by omega))
      rw [HF.out] at hr ⊢
      have HN2 := Lib.hid (not_u hr)
      generalize C.reg r0 l = r at *
      go_wp2
      go_ret
      rw [HU.out]
      exact ⟨ret_int HN2.out, HB.out⟩

set_option maxRecDepth 100000 in
theorem Sum_l (l : List UInt8) (w : World) (hl : l.length ≤ 100000000) :
    Calls Try.prog 58 #[.string (B l)] w fun e w' => e = .returned (.int .u32 (C.upd 0 l : Nat)) ∧ Below w.heap.size w w' := by
  go_enter Try.func58, Try.ntmps58
  go_wp2_with fail
  refine (Update_l 0 l w (by omega) hl).mono ?_
  rintro e w1 ⟨rfl, hb1⟩
  generalize hx : C.upd 0 l = x at *
  have HX := Lib.hid hx; clear hx
  go_wp2
  go_ret
  rw [HX.out]
  exact ⟨rfl, hb1⟩
end Go.Proofs.Ytmfhipjceeijmaa
