/-
  Own texts, joined: Base NumFixed NumPut NumTake NumTake2 NumRefPut CrcHalves CrcProg NumRefTake NumRefTake2 CrcRef
-/
import Derived.Test.YtmfhipjceeijmaaGreatDoorRows
import Derived.Test.YtmfhipjceeijmaaGreatDoorBun2
import Derived.Lib.OthersKept
import Derived.Lib.Hide
import Derived.Lib.BufferRead
import Derived.WalkKit
import Derived.WalkSpells
import Derived.WalkSmall
import Derived.OpenShut
import Derived.SliceStrings
import Derived.Deep.QuietTactic
import Derived.BigQuiet
import Derived.Laws.BitsAllLaws
import Derived.IntWalk
import Derived.Test.YtmfhipjceeijmaaGreatDoorBun1

/-
  Texts as lists of bytes, and what a call leaves of old memory: rules for the walks.
-/
namespace Go.Proofs.YtmfhipjceeijmaaGreatDoor
open Go.RowKit

theorem ret_bool {a b : Bool} (h : a = b) : Ending.returned (.bool a) = .returned (.bool b) := by rw [h]
theorem ret_int {k : IntKind} {a b : Int} (h : a = b) : Ending.returned (.int k a) = .returned (.int k b) := by rw [h]
theorem ret_str {a b : ByteArray} (h : a = b) : Ending.returned (.string a) = .returned (.string b) := by rw [h]
theorem ret_two {a a' b b' : Value} (h1 : a = a') (h2 : b = b') : Ending.returned (.tuple #[a, b]) = .returned (.tuple #[a', b']) := by rw [h1, h2]
theorem ret_tri {a a' : Value} {b b' : Value} {c c' : Value} (h1 : a = a') (h2 : b = b') (h3 : c = c') : Ending.returned (.tuple #[a, b, c]) = .returned (.tuple #[a', b', c']) := by rw [h1, h2, h3]
theorem int_eq {k : IntKind} {a b : Int} (h : a = b) : Value.int k a = .int k b := by rw [h]
theorem str_eq {a b : ByteArray} (h : a = b) : Value.string a = .string b := by rw [h]
theorem results_four {fn : Func} {t u v x : Tmp} (h : fn.results = #[.tmp t, .tmp u, .tmp v, .tmp x]) (tmps : Array Value) (P : Program) (w : World) :
    (results fn tmps).run P w = .ok (.tuple #[tmps.getD t undef, tmps.getD u undef, tmps.getD v undef, tmps.getD x undef]) w := by
  simp [results, h]

abbrev L (s : ByteArray) : List UInt8 := s.data.toList
def B (l : List UInt8) : ByteArray := ⟨l.toArray⟩
theorem L_len (s : ByteArray) : (L s).length = s.size := by simp
theorem L_B (l : List UInt8) : L (B l) = l := by simp [B, L]
theorem B_L (s : ByteArray) : B (L s) = s := by simp [B, L]
theorem B_inj {l m : List UInt8} (h : B l = B m) : l = m := by rw [← L_B l, ← L_B m, h]
theorem size_B (l : List UInt8) : (B l).size = l.length := by rw [← L_len, L_B]
theorem ext_list (s : ByteArray) (a b : Nat) : (s.extract a b).data.toList = (s.data.toList.drop a).take (b - a) := by
  simp [ByteArray.data_extract]
theorem ext_B (s : ByteArray) (a b : Nat) : s.extract a b = B (((L s).drop a).take (b - a)) := by
  rw [← B_L (s.extract a b)]; exact congrArg B (ext_list s a b)
theorem ext_Bd (m : List UInt8) (k : Nat) : (B m).extract k (B m).size = B (m.drop k) := by
  rw [ext_B, L_B, List.take_of_length_le (by simp [size_B])]
theorem ext_Bl (m : List UInt8) (k : Nat) : (B m).extract k m.length = B (m.drop k) := by rw [← size_B m, ext_Bd]
theorem ext_Bt (m : List UInt8) (k : Nat) : (B m).extract 0 k = B (m.take k) := by
  rw [ext_B, L_B]; simp
theorem ext_mid2 (m : List UInt8) (a b : Nat) : (B m).extract a b = B ((m.drop a).take (b - a)) := by rw [ext_B, L_B]
theorem toList_B (m : List UInt8) : (B m).toList = m := by rw [Lib.toList_data]; exact L_B m
theorem add_B (l m : List UInt8) : B l ++ B m = B (l ++ m) := ByteArray.mk_append_mk l m
theorem get_B (m : List UInt8) (n : Nat) (h : n < (B m).size) : (B m)[n]'h = m.getD n 0 := by
  have h1 : n < m.length := by rw [size_B] at h; exact h
  show m.toArray[n] = _
  simp [List.getD_eq_getElem?_getD, h1]
theorem get_Bt (m : List UInt8) (n : Nat) (h : n < (B m).size) : ((B m)[n]'h).toNat = N.bt m n := by rw [get_B]; rfl

theorem Tryz.infoByte : (Tryz.prog.info? 5).map (fun i => (i.zero, i.size, i.bytes)) = some (some (.int .u8 0), 1, 1) := by kernel_rfl

theorem own_below {w w' : World} {base : Nat} {e : TypeId} {v : Value} {n : Nat} {xs : List Value} (h : w.ownsRow base e 1 v n xs) (hb : Below w.heap.size w w') : w'.ownsRow base e 1 v n xs := by
  refine ⟨h.1, ?_⟩
  rcases h.2 with hn | ⟨g, cap, cur, rfl, hbg, hg, rest⟩
  · exact .inl hn
  · refine .inr ⟨g, cap, cur, rfl, hbg, ?_, rest⟩
    rw [hb.block g (Array.getElem?_eq_some_iff.1 hg).1]
    exact hg
theorem below_grown {w0 w w1 : World} {base : Nat} {e : TypeId} {v : Value} {n : Nat} {xs : List Value} {o : Obj} (hb : Below base w0 w) (hle : base ≤ w.heap.size) (h : w.ownsRow base e 1 v n xs) (hg : (w.alloc o).grownBy w1 v.ownBlock) : Below base w0 w1 :=
  (hb.alloc hle o).grown hg (by simp; omega) (fun _ hk => (h.lt _ hk).1)
theorem chain {P : Program} {f : Nat} {args : Array Value} {w w0 : World} {x : Ending} (h : Calls P f args w fun e w' => e = x ∧ Below w.heap.size w w') (hb : Below w0.heap.size w0 w) :
    Calls P f args w fun e w' => e = x ∧ Below w0.heap.size w0 w' := h.mono fun _ _ ⟨a, b⟩ => ⟨a, hb.trans (b.mono hb.size)⟩
def sQuiet (w wr : World) : Prop := ∃ n, wr = w.drewN n
theorem below_quiet {B : Nat} {w w1 w2 : World} (h : Below B w w1) (hq : sQuiet w1 w2) : Below B w w2 := by
  obtain ⟨n, rfl⟩ := hq
  exact below_drewN h n
theorem quiet_trans {w w1 w2 : World} (h : sQuiet w w1) (h2 : sQuiet w1 w2) : sQuiet w w2 := by
  obtain ⟨a, rfl⟩ := h
  obtain ⟨b, rfl⟩ := h2
  exact ⟨a + b, by simp [World.drewN, Nat.add_assoc]⟩
theorem quiet_two (w : World) (a b : Nat) : sQuiet w ((w.drewN a).drewN b) := ⟨a + b, by simp [World.drewN, Nat.add_assoc]⟩

theorem conv_owned {w : World} {base : Nat} {v : Value} {n : Nat} {l : List UInt8} (h : w.ownsRow base 5 1 v n (Lib.byteCells l)) :
    (convert 106 9 v).run Tryz.prog w = .ok (.string (B l)) w := by
  have hn : n = l.length := by have := h.1; rw [Lib.byteCells_length] at this; omega
  subst hn
  rcases h.2 with ⟨rfl, h0⟩ | ⟨g, cap, cur, rfl, _, hg, _, _, _, ht⟩
  · have : l = [] := List.length_eq_zero_iff.1 h0
    subst this
    exact Lib.run_convert_nil_bytes w 106 9 5 0 Tryz.underlying106 Tryz.underlying5 Tryz.underlying9
  · exact run_convert_bytes_back w 106 9 5 ⟨g, 0, none⟩ cap l Tryz.underlying106 Tryz.underlying5 Tryz.underlying9 (Lib.bytes_of_row hg (by simpa using ht))

/-- A slice value that reads as a list of cells. -/
def Reads (w : World) (v : Value) (xs : List Value) : Prop :=
  ∃ a cap, v = .slice a xs.length cap ∧ ∀ i, i < xs.length → ∃ b off, a = some ⟨b, off, none⟩ ∧ w.cell? ⟨b, off + i, none⟩ = xs[i]?
theorem reads_own {w : World} {base : Nat} {e : TypeId} {v : Value} {n : Nat} {xs : List Value} (h : w.ownsRow base e 1 v n xs) : Reads w v xs := by
  have hn : xs.length = n := by have := h.1; omega
  subst hn
  rcases h.2 with ⟨rfl, h0⟩ | ⟨g, cap, cur, rfl, _⟩
  · exact ⟨none, 0, by rw [h0], fun i hi => by omega⟩
  · exact ⟨_, cap, rfl, fun i hi => ⟨g, 0, rfl, by rw [Nat.zero_add]; exact h.cellAt i (by omega)⟩⟩
theorem reads_cell {w w' : World} {v : Value} {xs : List Value} (h : Reads w v xs) (hc : ∀ p : Addr, ∀ u, w.cell? p = some u → w'.cell? p = some u) : Reads w' v xs := by
  obtain ⟨a, cap, rfl, hx⟩ := h
  refine ⟨a, cap, rfl, fun i hi => ?_⟩
  obtain ⟨b, off, rfl, he⟩ := hx i hi
  refine ⟨b, off, rfl, ?_⟩
  rw [List.getElem?_eq_getElem hi] at he ⊢
  exact hc _ _ he
theorem reads_below {w w' : World} {v : Value} {xs : List Value} (h : Reads w v xs) (hb : Below w.heap.size w w') : Reads w' v xs :=
  reads_cell h fun p u hu => by rw [hb.cell (World.block_lt_of_cell? w p hu)]; exact hu
def strCells (ws : List (List UInt8)) : List Value := ws.map fun l => .string (B l)
theorem strCells_len (ws : List (List UInt8)) : (strCells ws).length = ws.length := by simp [strCells]
theorem reads_strings {w : World} {a : Addr} {len cap : Nat} {ss : List ByteArray} (hl : len ≤ ss.length) (h : ∀ i, i < ss.length → w.cell? (a.add i) = some (.string (ss.getD i ByteArray.empty))) :
    Reads w (.slice (some a) len cap) (strCells ((ss.take len).map L)) := by
  have hlen : (strCells ((ss.take len).map L)).length = len := by rw [strCells_len, List.length_map, List.length_take]; omega
  refine ⟨some a, cap, by rw [hlen], fun i hi => ?_⟩
  rw [hlen] at hi
  obtain ⟨b, off, spot⟩ := a
  have hspot : spot = none := by simpa [Addr.add] using World.cell?_spot (h 0 (by omega))
  subst hspot
  refine ⟨b, off, rfl, ?_⟩
  have h1 := h i (by omega)
  rw [Go.WideShapes.add_plain] at h1
  rw [h1]
  have hi2 : i < ss.length := by omega
  simp [strCells, hi, hi2, B_L, List.getD_eq_getElem?_getD]
theorem u32_nat {z : Int} (h : (Lit.int .u32 z).wf = true) : ∃ m : Nat, z = m ∧ m < 4294967296 := by
  have h2 : IntKind.u32.min ≤ z ∧ z ≤ IntKind.u32.max := by simpa [Lit.wf] using h
  have e1 : IntKind.u32.min = 0 := by decide
  have e2 : IntKind.u32.max = 4294967295 := by decide
  exact ⟨z.toNat, by omega, by omega⟩
theorem i64_bd {z : Int} (h : (Lit.int .i64 z).wf = true) : -9223372036854775808 ≤ z ∧ z ≤ 9223372036854775807 := by
  have h2 : IntKind.i64.min ≤ z ∧ z ≤ IntKind.i64.max := by simpa [Lit.wf] using h
  have e1 : IntKind.i64.min = -9223372036854775808 := by decide
  have e2 : IntKind.i64.max = 9223372036854775807 := by decide
  omega
end Go.Proofs.YtmfhipjceeijmaaGreatDoor

/-
  Walks of package num, and of the document's answer to it: Fixed and TakeFixed.
-/
namespace Go.Proofs.YtmfhipjceeijmaaGreatDoor
open Go.RowKit
attribute [local go_sem] ext_Bd ext_Bl ext_Bt toList_B add_B size_B get_Bt

theorem fix_cells (m : Nat) (h : m < 4294967296) : [Value.int .u8 ((m : Int) / 16777216), .int .u8 ((m : Int) / 65536 % 256), .int .u8 ((m : Int) / 256 % 256), .int .u8 ((m : Int) % 256)] = Lib.byteCells (N.fixL m) := by
  have e0 := N.u8_nat (n := m / 16777216 % 256) (by omega)
  have e1 := N.u8_nat (n := m / 65536 % 256) (by omega)
  have e2 := N.u8_nat (n := m / 256 % 256) (by omega)
  have e3 := N.u8_nat (n := m % 256) (by omega)
  simp only [Lib.byteCells, N.fixL, List.map_cons, List.map_nil, e0, e1, e2, e3]
  have f0 : (m : Int) / 16777216 = ((m / 16777216 % 256 : Nat) : Int) := by omega
  have f1 : (m : Int) / 65536 % 256 = ((m / 65536 % 256 : Nat) : Int) := by omega
  have f2 : (m : Int) / 256 % 256 = ((m / 256 % 256 : Nat) : Int) := by omega
  have f3 : (m : Int) % 256 = ((m % 256 : Nat) : Int) := by omega
  rw [f0, f1, f2, f3]
theorem fix_conv (m : Nat) (w : World) (h : m < 4294967296) :
    (convert 106 9 (.slice (some ⟨w.heap.size, 0, none⟩) 4 4)).run Tryz.prog (w.alloc (.cells #[.int .u8 ((m : Int) / 16777216), .int .u8 ((m : Int) / 65536 % 256), .int .u8 ((m : Int) / 256 % 256), .int .u8 ((m : Int) % 256)] 5)) =
      .ok (.string (B (N.fixL m))) (w.alloc (.cells #[.int .u8 ((m : Int) / 16777216), .int .u8 ((m : Int) / 65536 % 256), .int .u8 ((m : Int) / 256 % 256), .int .u8 ((m : Int) % 256)] 5)) := by
  have ho := World.ownsRow_lit (base := w.heap.size) (e := 5) (size := 1) w #[.int .u8 ((m : Int) / 16777216), .int .u8 ((m : Int) / 65536 % 256), .int .u8 ((m : Int) / 256 % 256), .int .u8 ((m : Int) % 256)] 4 (Nat.le_refl _) (by decide) rfl
  exact conv_owned (l := N.fixL m) (by rw [← fix_cells m h]; exact ho)

set_option maxHeartbeats 1000000 in
set_option maxRecDepth 100000 in
theorem Fixed_l (m : Nat) (w : World) (h : m < 4294967296) :
    Calls Tryz.prog 134 #[.int .u32 m] w fun e w' => e = .returned (.string (B (N.fixL m))) ∧ Below w.heap.size w w' := by
  have hcv := fix_conv m w h
  go_enter Tryz.func134, Tryz.ntmps134
  go_wp2
  go_ret
  exact ⟨rfl, (Below.refl _ w).alloc (Nat.le_refl _) _⟩
theorem or8 (n b : Nat) (hn : n < 16777216) (hb : b < 256) : bits .or .u32 ((n : Int) * 256) (b : Int) = ((n * 256 + b : Nat) : Int) := by
  have e : (n : Int) * 256 = ((n * 256 : Nat) : Int) := by omega
  rw [e, u32_or_nat _ _ (by omega) (by omega)]
  have := Nat.two_pow_add_eq_or_of_lt (i := 8) (b := b) (by omega) n
  rw [show n * 256 = 2 ^ 8 * n by omega, ← this]

/-- The value of the first bytes. -/
def fixP (l : List UInt8) : Nat → Nat
  | 0 => 0
  | k + 1 => fixP l k * 256 + N.bt l k
theorem fixP_lt (l : List UInt8) : ∀ k, fixP l k < 256 ^ k
  | 0 => by simp [fixP]
  | k + 1 => by
    have := fixP_lt l k
    have := N.bt_lt l k
    simp only [fixP, Nat.pow_succ]; omega
theorem fixP_four (l : List UInt8) : fixP l 4 = N.fixV l := by simp [fixP, N.fixV]

def txRes (l : List UInt8) : Value := if l.length < 4 then .tuple #[.int .u32 0, .string (B []), .int .i64 3] else .tuple #[.int .u32 (N.fixV l), .string (B (l.drop 4)), .int .i64 0]
theorem txRes_bad {l : List UInt8} (h : l.length < 4) : txRes l = .tuple #[.int .u32 0, .string (B []), .int .i64 3] := by rw [txRes, if_pos h]
theorem txRes_ok {l : List UInt8} (h : ¬ l.length < 4) : txRes l = .tuple #[.int .u32 (N.fixV l), .string (B (l.drop 4)), .int .i64 0] := by rw [txRes, if_neg h]

set_option maxHeartbeats 1000000 in
set_option maxRecDepth 100000 in
theorem TakeFixed_l (l : List UInt8) (w : World) (hs : l.length ≤ 100000000) :
    Calls Tryz.prog 165 #[.string (B l)] w fun e w' => e = .returned (txRes l) ∧ sQuiet w w' := by
  by_cases h4 : l.length < 4
  · have R := Lib.hid (txRes_bad h4)
    go_enter Tryz.func165, Tryz.ntmps165
    go_wp2
    go_ret3
    rw [R.out]
    exact ⟨rfl, 0, rfl⟩
  · have R := Lib.hid (txRes_ok h4)
    have hb4 : 4 ≤ (B l).size := by rw [size_B]; omega
    go_enter Tryz.func165, Tryz.ntmps165
    go_wp2
    go_loop [5, 10] (fun a i => ∃ k : Nat, a = .int .u32 (fixP l k) ∧ i = .int .i64 k ∧ k ≤ 4) (fun _ i => 4 - (intOf i).toNat)
    case atStart => exact ⟨0, rfl, rfl, by omega⟩
    case round =>
      obtain ⟨k, rfl, rfl, hk⟩ := hrel
      by_cases hk4 : k < 4
      · have hb := N.bt_lt l k
        have hkb : k < (B l).size := by omega
        have hkl : k < l.length := by omega
        have hp : fixP l k < 16777216 := by
          have h1 := fixP_lt l k
          have h2 : 256 ^ k ≤ 256 ^ 3 := Nat.pow_le_pow_right (by omega) (by omega)
          omega
        have hor := or8 (fixP l k) (N.bt l k) hp hb
        have HS := Lib.hid (show fixP l (k + 1) = fixP l k * 256 + N.bt l k from rfl)
        generalize fixP l k = p at *
        go_wp2
        go_round
        case rel => exact ⟨k + 1, by rw [HS.out]; go_num, by go_num, by omega⟩
        case measure => simp [intOf]; omega
      · obtain rfl : k = 4 := by omega
        have HF := Lib.hid (fixP_four l)
        go_wp2
        go_quiet (fail)
        go_wp2
        go_ret3
        rw [R.out, HF.out]
        exact ⟨rfl, _, rfl⟩
set_option maxHeartbeats 1000000 in
set_option maxRecDepth 100000 in
theorem refFixed_l (m : Nat) (w : World) (h : m < 4294967296) :
    Calls Tryz.prog 142 #[.int .u32 m] w fun e w' => e = .returned (.string (B (N.fixL m))) ∧ Below w.heap.size w w' := by
  have hcv := fix_conv m w h
  go_enter Tryz.func142, Tryz.ntmps142
  go_wp2
  go_ret
  exact ⟨rfl, (Below.refl _ w).alloc (Nat.le_refl _) _⟩
set_option maxHeartbeats 1000000 in
set_option maxRecDepth 100000 in
theorem refTakeFixed_l (l : List UInt8) (w : World) (hs : l.length ≤ 100000000) :
    Calls Tryz.prog 107 #[.string (B l)] w fun e w' => e = .returned (txRes l) ∧ sQuiet w w' := by
  by_cases h4 : l.length < 4
  · have R := Lib.hid (txRes_bad h4)
    go_enter Tryz.func107, Tryz.ntmps107
    go_wp2
    go_ret3
    rw [R.out]
    exact ⟨rfl, 0, rfl⟩
  · have R := Lib.hid (txRes_ok h4)
    have hb4 : 4 ≤ (B l).size := by rw [size_B]; omega
    go_enter Tryz.func107, Tryz.ntmps107
    go_wp2
    go_loop [5, 6] (fun a i => ∃ k : Nat, a = .int .u32 (fixP l k) ∧ i = .int .i64 k ∧ k ≤ 4) (fun _ i => 4 - (intOf i).toNat)
    case atStart => exact ⟨0, rfl, rfl, by omega⟩
    case round =>
      obtain ⟨k, rfl, rfl, hk⟩ := hrel
      by_cases hk4 : k < 4
      · have hb := N.bt_lt l k
        have hkb : k < (B l).size := by omega
        have hkl : k < l.length := by omega
        have hp : fixP l k < 16777216 := by
          have h1 := fixP_lt l k
          have h2 : 256 ^ k ≤ 256 ^ 3 := Nat.pow_le_pow_right (by omega) (by omega)
          omega
        have hor := or8 (fixP l k) (N.bt l k) hp hb
        have HS := Lib.hid (show fixP l (k + 1) = fixP l k * 256 + N.bt l k from rfl)
        generalize fixP l k = p at *
        go_wp2
        go_round
        case rel => exact ⟨k + 1, by rw [HS.out]; go_num, by go_num, by omega⟩
        case measure => simp [intOf]; omega
      · obtain rfl : k = 4 := by omega
        have HF := Lib.hid (fixP_four l)
        go_wp2
        go_quiet (fail)
        go_wp2
        go_ret3
        rw [R.out, HF.out]
        exact ⟨rfl, _, rfl⟩
end Go.Proofs.YtmfhipjceeijmaaGreatDoor

/-
  Walks of what package num and the document's answer put: within, Put, PutInt, PutText, Fixed.
-/
namespace Go.Proofs.YtmfhipjceeijmaaGreatDoor
open Go.RowKit
attribute [local go_sem] ext_Bd ext_Bl ext_Bt toList_B add_B size_B get_Bt

set_option maxHeartbeats 400000 in
theorem within_any (n lo hi : Int) (w : World) : Calls Tryz.prog 103 #[.int .i64 n, .int .i64 lo, .int .i64 hi] w fun e w' => e = .returned (.int .i64 (min (max n lo) hi)) ∧ w = w' := by
  go_enter Tryz.func103, Tryz.ntmps103
  by_cases h : n < lo
  all_goals
    go_wp2
    all_goals
      go_ret
      exact ⟨ret_int (by omega), rfl⟩
theorem within_held (n : Int) (w : World) : Calls Tryz.prog 103 #[.int .i64 n, .int .i64 0, .int .i64 1099511627776] w fun e w' => e = .returned (.int .i64 (N.held n)) ∧ w = w' :=
  (within_any n 0 1099511627776 w).mono fun e w' ⟨a, b⟩ => ⟨by rw [a]; exact ret_int (by unfold N.held; omega), b⟩
theorem within_heldI (n : Int) (w : World) : Calls Tryz.prog 103 #[.int .i64 n, .int .i64 (-549755813888), .int .i64 549755813888] w fun e w' => e = .returned (.int .i64 (N.heldI n)) ∧ w = w' :=
  (within_any n (-549755813888) 549755813888 w).mono fun e w' ⟨a, b⟩ => ⟨by rw [a]; exact ret_int (by unfold N.heldI; omega), b⟩

structure PutAt (N0 : Nat) (w : World) (v : Value) (wr : World) (m : Nat) (acc : List UInt8) : Prop where
  own : wr.ownsRow w.heap.size 5 1 v acc.length (Lib.byteCells acc)
  bel : Below w.heap.size w wr
  cut : N.putL N0 = acc ++ N.putL m
  le : m ≤ 1099511627776
  len : acc.length ≤ 5
theorem PutAt.start (N0 : Nat) (w : World) (h : N0 ≤ 1099511627776) : PutAt N0 w (.slice none 0 0) w N0 [] :=
  ⟨World.ownsRow_nil _ _ _ _, Below.refl _ w, rfl, h, by simp⟩
theorem byte_cell {c : Nat} (h : c < 256) : [Value.int .u8 (c : Int)] = Lib.byteCells [c.toUInt8] := by
  have := N.u8_nat h
  simp [Lib.byteCells, this]
theorem PutAt.step {N0 : Nat} {w : World} {v v' : Value} {wr w1 : World} {m k c : Nat} {acc : List UInt8} {o : Obj} (h : PutAt N0 w v wr m acc) (hN : N0 ≤ 1099511627776) (hm : ¬ m < 128) (hc : c = m % 128 + 128)
    (hg : (wr.alloc o).grownBy w1 v.ownBlock) (ho : w1.ownsRow w.heap.size 5 1 v' k (Lib.byteCells acc ++ [.int .u8 (c : Int)])) : PutAt N0 w v' w1 (m / 128) (acc ++ [c.toUInt8]) := by
  subst hc
  have hle := h.le
  have hk : k = (acc ++ [(m % 128 + 128).toUInt8]).length := by have := ho.1; simp [Lib.byteCells_length] at this; simp; omega
  subst hk
  rw [byte_cell (by omega), ← Lib.byteCells_append] at ho
  have hcut : N.putL N0 = (acc ++ [(m % 128 + 128).toUInt8]) ++ N.putL (m / 128) := by rw [h.cut, N.putL_hi hm]; simp
  refine ⟨ho, below_grown h.bel h.bel.size h.own hg, hcut, by omega, ?_⟩
  have h1 := N.putL_len6 hN
  have h2 := N.putL_pos (m / 128)
  rw [hcut] at h1
  simp at h1 ⊢; omega
theorem PutAt.done {N0 : Nat} {w : World} {v : Value} {wr : World} {m : Nat} {acc : List UInt8} (h : PutAt N0 w v wr m acc) (hm : m < 128) : N.putL N0 = acc ++ [m.toUInt8] := by
  rw [h.cut, N.putL_lo hm]
theorem PutAt.last {N0 : Nat} {w : World} {v v' : Value} {wr w1 : World} {m k : Nat} {acc : List UInt8} {o : Obj} (h : PutAt N0 w v wr m acc) (hm : m < 128)
    (hg : (wr.alloc o).grownBy w1 v.ownBlock) (ho : w1.ownsRow w.heap.size 5 1 v' k (Lib.byteCells acc ++ [.int .u8 (m : Int)])) : Below w.heap.size w w1 ∧ w1.ownsRow w.heap.size 5 1 v' k (Lib.byteCells (N.putL N0)) := by
  refine ⟨below_grown h.bel h.bel.size h.own hg, ?_⟩
  rw [h.done hm, Lib.byteCells_append, ← byte_cell (by omega)]
  exact ho

set_option maxHeartbeats 1000000 in
set_option maxRecDepth 100000 in
theorem Put_at (n : Int) (N0 : Nat) (HN : Hid (N0 ≤ 1099511627776)) (hk : Hid (N.held n = N0)) (w : World) :
    Calls Tryz.prog 84 #[.int .i64 n] w fun e w' => e = .returned (.string (B (N.putL N0))) ∧ Below w.heap.size w w' := by
  obtain ⟨i0, hi, hz0, hz1, hz2⟩ := info_parts Tryz.infoByte
  go_enter Tryz.func84, Tryz.ntmps84
  go_wp2_with fail
  refine (within_held n w).mono ?_
  rintro e w' ⟨rfl, rfl⟩
  rw [hk.out]
  go_wp2
  go_loopw [3, 4] (fun v a wr => ∃ (m : Nat) (acc : List UInt8), a = .int .i64 m ∧ PutAt N0 w v wr m acc) (fun _ a _ => (intOf a).toNat)
  case atStart => exact ⟨N0, [], rfl, PutAt.start N0 w HN.out⟩
  case round =>
    rename_i v _
    obtain ⟨m, acc, rfl, hg⟩ := hrel
    have hle := hg.le
    have hlen := hg.len
    have hown := hg.own
    have hsz := hg.bel.size
    have HG := Lib.hid hg; clear hg
    by_cases hm : m < 128
    · go_wp2_with (at_builtin; refine wpList_append_own _ rfl _ _ 106 rfl w.heap.size 5 i0 (.int .u8 0) 1 1 Tryz.underlying106 hi hz0 hz1 hz2 rfl (by decide) _ _ _ rfl (hown.alloc _) ⟨wr.heap.size, 0, none⟩ 1 1 [.int .u8 m] rfl rfl (cell_one_new _ _ _) (by intro u hu; simp at hu; subst hu; rfl) (by unfold maxLen; omega) (by omega) (by simp; omega) ?_; intro v' w1 hown' hgrow _; have hcv := conv_owned (HG.out.last hm hgrow hown').2)
      go_ret
      exact ⟨rfl, (HG.out.last hm hgrow hown').1⟩
    · go_wp2_with (at_builtin; refine wpList_append_own _ rfl _ _ 106 rfl w.heap.size 5 i0 (.int .u8 0) 1 1 Tryz.underlying106 hi hz0 hz1 hz2 rfl (by decide) _ _ _ rfl (hown.alloc _) ⟨wr.heap.size, 0, none⟩ 1 1 [.int .u8 ((m % 128 + 128 : Nat) : Int)] rfl rfl (cell_one_new _ _ _) (by intro u hu; simp at hu; subst hu; rfl) (by unfold maxLen; omega) (by omega) (by simp; omega) ?_; intro v' w1 hown' hgrow _)
      have R := Lib.hid (HG.out.step HN.out hm rfl hgrow hown')
      clear hown' hgrow
      go_wp2
      go_roundw
      case rel => exact ⟨_, _, by go_num, R.out⟩
      case measure => simp [intOf]; omega
theorem Put_any (n : Int) (w : World) :
    Calls Tryz.prog 84 #[.int .i64 n] w fun e w' => e = .returned (.string (B (N.putL (N.held n)))) ∧ Below w.heap.size w w' :=
  Put_at n _ (Lib.hid (N.held_le n)) (Lib.hid rfl) w

theorem Put_l (n : Nat) (w : World) (h : n ≤ 1099511627776) :
    Calls Tryz.prog 84 #[.int .i64 n] w fun e w' => e = .returned (.string (B (N.putL n))) ∧ Below w.heap.size w w' := by
  have := Put_any n w
  rwa [show N.held n = n by unfold N.held; omega] at this

set_option maxHeartbeats 1000000 in
theorem PutInt_at (n k : Int) (hk : Hid (N.heldI n = k)) (hb : -549755813888 ≤ k ∧ k ≤ 549755813888) (w : World) :
    Calls Tryz.prog 178 #[.int .i64 n] w fun e w' => e = .returned (.string (B (N.putL (N.held (N.zig k))))) ∧ Below w.heap.size w w' := by
  by_cases h : k < 0
  · have HZ := Lib.hid (show N.zig k = -2 * k - 1 by unfold N.zig; rw [if_pos h])
    go_enter Tryz.func178, Tryz.ntmps178
    go_wp2_with fail
    refine (within_heldI n w).mono ?_
    rintro e w' ⟨rfl, rfl⟩
    rw [hk.out]
    go_wp2_with fail
    refine (Put_any _ _).mono ?_
    rintro e w1 ⟨rfl, hb1⟩
    go_wp2
    go_ret
    rw [HZ.out]
    exact ⟨rfl, hb1⟩
  · have HZ := Lib.hid (show N.zig k = 2 * k by unfold N.zig; rw [if_neg h])
    go_enter Tryz.func178, Tryz.ntmps178
    go_wp2_with fail
    refine (within_heldI n w).mono ?_
    rintro e w' ⟨rfl, rfl⟩
    rw [hk.out]
    go_wp2_with fail
    refine (Put_any _ _).mono ?_
    rintro e w1 ⟨rfl, hb1⟩
    go_wp2
    go_ret
    rw [HZ.out]
    exact ⟨rfl, hb1⟩
theorem PutInt_any (n : Int) (w : World) :
    Calls Tryz.prog 178 #[.int .i64 n] w fun e w' => e = .returned (.string (B (N.putL (N.zigN n)))) ∧ Below w.heap.size w w' := by
  rw [← N.held_zig]
  exact PutInt_at n _ (Lib.hid rfl) (N.heldI_bd n) w
set_option maxHeartbeats 1000000 in
theorem PutText_l (l : List UInt8) (w : World) (h : l.length ≤ 1000000) :
    Calls Tryz.prog 177 #[.string (B l)] w fun e w' => e = .returned (.string (B (N.putT l))) ∧ Below w.heap.size w w' := by
  have hl := N.putL_len6 (m := l.length) (by omega)
  go_enter Tryz.func177, Tryz.ntmps177
  go_wp2_with fail
  refine (Put_l l.length _ (by omega)).mono ?_
  rintro e w1 ⟨rfl, hb1⟩
  go_wp2
  go_ret
  exact ⟨rfl, hb1⟩
end Go.Proofs.YtmfhipjceeijmaaGreatDoor

/-
  Walks of what package num takes: Take, TakeInt, TakeText, TakeFixed.
-/
namespace Go.Proofs.YtmfhipjceeijmaaGreatDoor
open Go.RowKit
attribute [local go_sem] ext_Bd ext_Bl ext_Bt toList_B add_B size_B get_Bt

def tkRes (o : N.Tk) : Value :=
  match o with
  | Sum.inl (n, r) => .tuple #[.int .i64 n, .string (B r), .int .i64 0]
  | Sum.inr e => .tuple #[.int .i64 0, .string (B []), .int .i64 e]
theorem tkRes_ok (n : Nat) (r : List UInt8) : tkRes (.ok n r) = .tuple #[.int .i64 n, .string (B r), .int .i64 0] := rfl
theorem tkRes_bad (e : Nat) : tkRes (.bad e) = .tuple #[.int .i64 0, .string (B []), .int .i64 e] := rfl

structure TkAt (l : List UInt8) (k n : Nat) : Prop where
  cut : N.takeL l = N.takeG (6 - k) n (l.drop k)
  lt : n < 128 ^ k
  le : k ≤ 6
  le2 : k ≤ l.length
theorem TkAt.start (l : List UInt8) : TkAt l 0 0 := ⟨rfl, by decide, by omega, by omega⟩
theorem TkAt.more {l : List UInt8} {k n : Nat} (h : TkAt l k n) (h6 : k < 6) (hl : k < l.length) (hb : 128 ≤ N.bt l k) : TkAt l (k + 1) (n + N.bt l k % 128 * 128 ^ k) := by
  obtain ⟨c, hd, hc⟩ := N.drop_cons hl
  have h1 := h.lt
  have h2 : N.bt l k % 128 * 128 ^ k ≤ 127 * 128 ^ k := Nat.mul_le_mul_right _ (by omega)
  refine ⟨?_, by rw [Nat.pow_succ]; omega, by omega, by omega⟩
  rw [h.cut, show 6 - k = (5 - k) + 1 by omega, hd, N.takeG_more (by omega), hc, show 5 - (5 - k) = k by omega, show 6 - (k + 1) = 5 - k by omega]
theorem TkAt.zero {l : List UInt8} {k n : Nat} (h : TkAt l k n) (h6 : k < 6) (hl : k < l.length) (hb : N.bt l k = 0) (hk : 0 < k) : N.takeL l = .bad 2 := by
  obtain ⟨c, hd, hc⟩ := N.drop_cons hl
  rw [h.cut, show 6 - k = (5 - k) + 1 by omega, hd, N.takeG_zero (by omega) (by omega)]
theorem TkAt.long {l : List UInt8} {k n : Nat} (h : TkAt l k n) (h6 : k < 6) (hl : k < l.length) (hb : N.bt l k < 128) (hz : ¬ (N.bt l k = 0 ∧ 0 < k)) (hn : 1099511627776 < n + N.bt l k % 128 * 128 ^ k) : N.takeL l = .bad 4 := by
  obtain ⟨c, hd, hc⟩ := N.drop_cons hl
  have e : N.bt l k % 128 = N.bt l k := by omega
  rw [e] at hn
  rw [h.cut, show 6 - k = (5 - k) + 1 by omega, hd, N.takeG_long (by omega) (by omega) (by rw [hc, show 5 - (5 - k) = k by omega]; exact hn)]
theorem TkAt.ok {l : List UInt8} {k n : Nat} (h : TkAt l k n) (h6 : k < 6) (hl : k < l.length) (hb : N.bt l k < 128) (hz : ¬ (N.bt l k = 0 ∧ 0 < k)) (hn : ¬ 1099511627776 < n + N.bt l k % 128 * 128 ^ k) : N.takeL l = .ok (n + N.bt l k % 128 * 128 ^ k) (l.drop (k + 1)) := by
  obtain ⟨c, hd, hc⟩ := N.drop_cons hl
  have e : N.bt l k % 128 = N.bt l k := by omega
  rw [e] at hn ⊢
  rw [h.cut, show 6 - k = (5 - k) + 1 by omega, hd, N.takeG_ok (by omega) (by omega) (by rw [hc, show 5 - (5 - k) = k by omega]; exact hn), hc, show 5 - (5 - k) = k by omega]
theorem TkAt.over {l : List UInt8} {k n : Nat} (h : TkAt l k n) (hl : ¬ k < l.length) : N.takeL l = .bad 3 := by
  rw [h.cut, List.drop_of_length_le (by omega), N.takeG_nil]
theorem TkAt.out {l : List UInt8} {k n : Nat} (h : TkAt l k n) (h6 : ¬ k < 6) (hl : k < l.length) : N.takeL l = .bad 2 := by
  obtain ⟨c, hd, hc⟩ := N.drop_cons hl
  have := h.le
  rw [h.cut, show 6 - k = 0 by omega, hd, N.takeG_out]

theorem within_six (n : Nat) (w : World) : Calls Tryz.prog 103 #[.int .i64 n, .int .i64 0, .int .i64 6] w fun e w' => e = .returned (.int .i64 ((min n 6 : Nat) : Int)) ∧ w = w' :=
  (within_any n 0 6 w).mono fun e w' ⟨a, b⟩ => ⟨by rw [a]; exact ret_int (by omega), b⟩

set_option maxHeartbeats 4000000 in
set_option maxRecDepth 100000 in
theorem Take_l (l : List UInt8) (w : World) (hs : l.length ≤ 100000000) :
    Calls Tryz.prog 73 #[.string (B l)] w fun e w' => e = .returned (tkRes (N.takeL l)) ∧ sQuiet w w' := by
  obtain ⟨M, hM⟩ : ∃ M, M = min l.length 6 := ⟨_, rfl⟩
  have hM1 : M ≤ l.length := by omega
  have hM2 : M ≤ 6 := by omega
  have HM := Lib.hid hM; clear hM
  go_enter Tryz.func73, Tryz.ntmps73
  go_wp2_with fail
  refine (within_six l.length w).mono ?_
  rintro e w' ⟨rfl, rfl⟩
  rw [← HM.out]
  go_wp2
  go_loop [5, 10] (fun a i => ∃ k n : Nat, a = .int .i64 n ∧ i = .int .i64 k ∧ k ≤ M ∧ TkAt l k n) (fun _ i => M - (intOf i).toNat)
  case atStart => exact ⟨0, 0, rfl, rfl, by omega, TkAt.start l⟩
  case round =>
    obtain ⟨k, n, rfl, rfl, hk, hg⟩ := hrel
    have hlt := hg.lt
    have HG := Lib.hid hg; clear hg
    by_cases hkM : k < M
    · have hb := N.bt_lt l k
      have hkl : k < l.length := by omega
      have hkb : k < (B l).size := by rw [size_B]; exact hkl
      rcases (by omega : k = 0 ∨ k = 1 ∨ k = 2 ∨ k = 3 ∨ k = 4 ∨ k = 5) with rfl | rfl | rfl | rfl | rfl | rfl
      · have hn : n < 1 := hlt
        clear hlt
        by_cases hc : 128 ≤ N.bt l 0
        · have R : Hid (TkAt l 1 (n + N.bt l 0 % 128 * 1)) := Lib.hid (HG.out.more (by omega) hkl hc)
          go_wp2
          go_round
          case rel => exact ⟨1, n + N.bt l 0 % 128 * 1, by go_num, rfl, by omega, R.out⟩
          case measure => simp [intOf]; omega
        · have hc2 : N.bt l 0 < 128 := by omega
          by_cases hz : N.bt l 0 = 0
          · have hzb : ((N.bt l 0 : Int) == 0) = true := by simp; omega
            have R : Hid (N.takeL l = .ok (n + N.bt l 0 % 128 * 1) (l.drop 1)) := Lib.hid (HG.out.ok (by omega) hkl hc2 (by omega) (by omega))
            clear hz hc
            go_wp2
            go_quiet (fail)
            go_wp2
            go_ret3
            rw [R.out, tkRes_ok]
            exact ⟨by simp, _, rfl⟩
          · have hzb : ((N.bt l 0 : Int) == 0) = false := by simp; omega
            have R : Hid (N.takeL l = .ok (n + N.bt l 0 % 128 * 1) (l.drop 1)) := Lib.hid (HG.out.ok (by omega) hkl hc2 (by omega) (by omega))
            clear hz hc
            go_wp2
            go_quiet (fail)
            go_wp2
            go_ret3
            rw [R.out, tkRes_ok]
            exact ⟨by simp, _, rfl⟩
      · have hn : n < 128 := hlt
        clear hlt
        by_cases hc : 128 ≤ N.bt l 1
        · have R : Hid (TkAt l 2 (n + N.bt l 1 % 128 * 128)) := Lib.hid (HG.out.more (by omega) hkl hc)
          go_wp2
          go_round
          case rel => exact ⟨2, n + N.bt l 1 % 128 * 128, by go_num, rfl, by omega, R.out⟩
          case measure => simp [intOf]; omega
        · have hc2 : N.bt l 1 < 128 := by omega
          by_cases hz : N.bt l 1 = 0
          · have hzb : ((N.bt l 1 : Int) == 0) = true := by simp; omega
            have R := Lib.hid (HG.out.zero (by omega) hkl hz (by omega))
            clear hz hc
            go_wp2
            go_ret3
            rw [R.out, tkRes_bad]
            exact ⟨rfl, 0, rfl⟩
          · have hzb : ((N.bt l 1 : Int) == 0) = false := by simp; omega
            have R : Hid (N.takeL l = .ok (n + N.bt l 1 % 128 * 128) (l.drop 2)) := Lib.hid (HG.out.ok (by omega) hkl hc2 (by omega) (by omega))
            clear hz hc
            go_wp2
            go_quiet (fail)
            go_wp2
            go_ret3
            rw [R.out, tkRes_ok]
            exact ⟨by simp, _, rfl⟩
      · have hn : n < 16384 := hlt
        clear hlt
        by_cases hc : 128 ≤ N.bt l 2
        · have R : Hid (TkAt l 3 (n + N.bt l 2 % 128 * 16384)) := Lib.hid (HG.out.more (by omega) hkl hc)
          go_wp2
          go_round
          case rel => exact ⟨3, n + N.bt l 2 % 128 * 16384, by go_num, rfl, by omega, R.out⟩
          case measure => simp [intOf]; omega
        · have hc2 : N.bt l 2 < 128 := by omega
          by_cases hz : N.bt l 2 = 0
          · have hzb : ((N.bt l 2 : Int) == 0) = true := by simp; omega
            have R := Lib.hid (HG.out.zero (by omega) hkl hz (by omega))
            clear hz hc
            go_wp2
            go_ret3
            rw [R.out, tkRes_bad]
            exact ⟨rfl, 0, rfl⟩
          · have hzb : ((N.bt l 2 : Int) == 0) = false := by simp; omega
            have R : Hid (N.takeL l = .ok (n + N.bt l 2 % 128 * 16384) (l.drop 3)) := Lib.hid (HG.out.ok (by omega) hkl hc2 (by omega) (by omega))
            clear hz hc
            go_wp2
            go_quiet (fail)
            go_wp2
            go_ret3
            rw [R.out, tkRes_ok]
            exact ⟨by simp, _, rfl⟩
      · have hn : n < 2097152 := hlt
        clear hlt
        by_cases hc : 128 ≤ N.bt l 3
        · have R : Hid (TkAt l 4 (n + N.bt l 3 % 128 * 2097152)) := Lib.hid (HG.out.more (by omega) hkl hc)
          go_wp2
          go_round
          case rel => exact ⟨4, n + N.bt l 3 % 128 * 2097152, by go_num, rfl, by omega, R.out⟩
          case measure => simp [intOf]; omega
        · have hc2 : N.bt l 3 < 128 := by omega
          by_cases hz : N.bt l 3 = 0
          · have hzb : ((N.bt l 3 : Int) == 0) = true := by simp; omega
            have R := Lib.hid (HG.out.zero (by omega) hkl hz (by omega))
            clear hz hc
            go_wp2
            go_ret3
            rw [R.out, tkRes_bad]
            exact ⟨rfl, 0, rfl⟩
          · have hzb : ((N.bt l 3 : Int) == 0) = false := by simp; omega
            have R : Hid (N.takeL l = .ok (n + N.bt l 3 % 128 * 2097152) (l.drop 4)) := Lib.hid (HG.out.ok (by omega) hkl hc2 (by omega) (by omega))
            clear hz hc
            go_wp2
            go_quiet (fail)
            go_wp2
            go_ret3
            rw [R.out, tkRes_ok]
            exact ⟨by simp, _, rfl⟩
      · have hn : n < 268435456 := hlt
        clear hlt
        by_cases hc : 128 ≤ N.bt l 4
        · have R : Hid (TkAt l 5 (n + N.bt l 4 % 128 * 268435456)) := Lib.hid (HG.out.more (by omega) hkl hc)
          go_wp2
          go_round
          case rel => exact ⟨5, n + N.bt l 4 % 128 * 268435456, by go_num, rfl, by omega, R.out⟩
          case measure => simp [intOf]; omega
        · have hc2 : N.bt l 4 < 128 := by omega
          by_cases hz : N.bt l 4 = 0
          · have hzb : ((N.bt l 4 : Int) == 0) = true := by simp; omega
            have R := Lib.hid (HG.out.zero (by omega) hkl hz (by omega))
            clear hz hc
            go_wp2
            go_ret3
            rw [R.out, tkRes_bad]
            exact ⟨rfl, 0, rfl⟩
          · have hzb : ((N.bt l 4 : Int) == 0) = false := by simp; omega
            have R : Hid (N.takeL l = .ok (n + N.bt l 4 % 128 * 268435456) (l.drop 5)) := Lib.hid (HG.out.ok (by omega) hkl hc2 (by omega) (by omega))
            clear hz hc
            go_wp2
            go_quiet (fail)
            go_wp2
            go_ret3
            rw [R.out, tkRes_ok]
            exact ⟨by simp, _, rfl⟩
      · have hn : n < 34359738368 := hlt
        clear hlt
        by_cases hc : 128 ≤ N.bt l 5
        · have R : Hid (TkAt l 6 (n + N.bt l 5 % 128 * 34359738368)) := Lib.hid (HG.out.more (by omega) hkl hc)
          go_wp2
          go_round
          case rel => exact ⟨6, n + N.bt l 5 % 128 * 34359738368, by go_num, rfl, by omega, R.out⟩
          case measure => simp [intOf]; omega
        · have hc2 : N.bt l 5 < 128 := by omega
          by_cases hz : N.bt l 5 = 0
          · have hzb : ((N.bt l 5 : Int) == 0) = true := by simp; omega
            have R := Lib.hid (HG.out.zero (by omega) hkl hz (by omega))
            clear hz hc
            go_wp2
            go_ret3
            rw [R.out, tkRes_bad]
            exact ⟨rfl, 0, rfl⟩
          · have hzb : ((N.bt l 5 : Int) == 0) = false := by simp; omega
            by_cases hg : 1099511627776 < n + N.bt l 5 % 128 * 34359738368
            · have R := Lib.hid (HG.out.long (by omega) hkl hc2 (by omega) hg)
              clear hz hc
              go_wp2
              go_ret3
              rw [R.out, tkRes_bad]
              exact ⟨rfl, 0, rfl⟩
            · have R : Hid (N.takeL l = .ok (n + N.bt l 5 % 128 * 34359738368) (l.drop 6)) := Lib.hid (HG.out.ok (by omega) hkl hc2 (by omega) hg)
              clear hz hc
              go_wp2
              go_quiet (fail)
              go_wp2
              go_ret3
              rw [R.out, tkRes_ok]
              exact ⟨by simp, _, rfl⟩
    · by_cases hl6 : 6 < l.length
      · have R := Lib.hid (HG.out.out (by have := HM.out; omega) (by have := HM.out; omega))
        go_wp2
        go_ret3
        rw [R.out, tkRes_bad]
        exact ⟨rfl, 0, rfl⟩
      · have R := Lib.hid (HG.out.over (by have := HM.out; omega))
        go_wp2
        go_ret3
        rw [R.out, tkRes_bad]
        exact ⟨rfl, 0, rfl⟩
end Go.Proofs.YtmfhipjceeijmaaGreatDoor

/-
  Walks of what package num takes: TakeInt, TakeText, TakeFixed.
-/
namespace Go.Proofs.YtmfhipjceeijmaaGreatDoor
open Go.RowKit
attribute [local go_sem] ext_Bd ext_Bl ext_Bt toList_B add_B size_B get_Bt

def tiRes (o : N.Tk) : Value :=
  match o with
  | Sum.inl (n, r) => .tuple #[.int .i64 (N.zag n), .string (B r), .int .i64 0]
  | Sum.inr e => .tuple #[.int .i64 0, .string (B []), .int .i64 e]
theorem tiRes_ok (n : Nat) (r : List UInt8) : tiRes (.ok n r) = .tuple #[.int .i64 (N.zag n), .string (B r), .int .i64 0] := rfl
theorem tiRes_bad (e : Nat) : tiRes (.bad e) = .tuple #[.int .i64 0, .string (B []), .int .i64 e] := rfl

theorem zag_walk {n : Nat} (hn : n ≤ 1099511627776) (h : n % 2 = 1) : wrap64 (-((n : Int) + 1).tdiv 2) = -((n : Int) + 1) / 2 := by
  rw [Int.tdiv_eq_ediv_of_nonneg (by omega), IntWalk.wrap64_in _ (by omega)]; omega

set_option maxHeartbeats 1000000 in
set_option maxRecDepth 100000 in
theorem TakeInt_l (l : List UInt8) (w : World) (hs : l.length ≤ 100000000) :
    Calls Tryz.prog 195 #[.string (B l)] w fun e w' => e = .returned (tiRes (N.takeL l)) ∧ sQuiet w w' := by
  rcases N.takeL_cases l with ⟨e, hT⟩ | ⟨n, r, hT⟩
  · rw [hT]
    have HT := Lib.hid hT; clear hT
    go_enter Tryz.func195, Tryz.ntmps195
    go_wp2_with fail
    refine (Take_l l w hs).mono ?_
    rintro e1 w1 ⟨rfl, hq⟩
    rw [HT.out, tkRes_bad]
    go_wp2
    go_ret3
    rw [tiRes_bad]
    exact ⟨rfl, hq⟩
  · rw [hT]
    have hn := (N.take_inv hT).2
    have HT := Lib.hid hT; clear hT
    by_cases h2 : n % 2 = 1
    · have h2b : ((n : Int) % 2 == 1) = true := by simp; omega
      have HZ := Lib.hid (show N.zag n = -((n : Int) + 1) / 2 by unfold N.zag; rw [if_pos h2])
      have H2 := Lib.hid h2; clear h2
      go_enter Tryz.func195, Tryz.ntmps195
      go_wp2_with fail
      refine (Take_l l w hs).mono ?_
      rintro e1 w1 ⟨rfl, hq⟩
      rw [HT.out, tkRes_ok]
      go_wp2
      go_ret3
      rw [tiRes_ok, HZ.out]
      exact ⟨ret_tri (int_eq (zag_walk hn H2.out)) rfl rfl, hq⟩
    · have h2b : ((n : Int) % 2 == 1) = false := by simp; omega
      have HZ := Lib.hid (show N.zag n = (n : Int) / 2 by unfold N.zag; rw [if_neg h2])
      have H2 := Lib.hid h2; clear h2
      go_enter Tryz.func195, Tryz.ntmps195
      go_wp2_with fail
      refine (Take_l l w hs).mono ?_
      rintro e1 w1 ⟨rfl, hq⟩
      rw [HT.out, tkRes_ok]
      go_wp2
      go_ret3
      rw [tiRes_ok, HZ.out]
      exact ⟨ret_tri (int_eq (by omega)) rfl rfl, hq⟩
def ttRes (o : N.Tt) : Value :=
  match o with
  | Sum.inl (t, r) => .tuple #[.string (B t), .string (B r), .int .i64 0]
  | Sum.inr e => .tuple #[.string (B []), .string (B []), .int .i64 e]
theorem ttRes_ok (t r : List UInt8) : ttRes (.ok t r) = .tuple #[.string (B t), .string (B r), .int .i64 0] := rfl
theorem ttRes_bad (e : Nat) : ttRes (.bad e) = .tuple #[.string (B []), .string (B []), .int .i64 e] := rfl
theorem takeL_bad : ∀ (g n : Nat) (l : List UInt8) (e : Nat), N.takeG g n l = .bad e → (e = 2 ∨ e = 3 ∨ e = 4)
  | g, n, [], e, h => by rw [N.takeG_nil] at h; cases h; omega
  | 0, n, c :: r, e, h => by rw [N.takeG_out] at h; cases h; omega
  | g + 1, n, c :: r, e, h => by
    rw [N.takeG] at h
    split at h
    · exact takeL_bad g _ r e h
    · split at h
      · cases h; omega
      · split at h <;> cases h <;> omega

set_option maxHeartbeats 1000000 in
set_option maxRecDepth 100000 in
theorem TakeText_l (l : List UInt8) (most : Int) (w : World) (hs : l.length ≤ 100000000) :
    Calls Tryz.prog 194 #[.string (B l), .int .i64 most] w fun e w' => e = .returned (ttRes (N.takeT l most)) ∧ sQuiet w w' := by
  rcases N.takeL_cases l with ⟨e, hT⟩ | ⟨n, r, hT⟩
  · have R := Lib.hid (N.takeT_bad most hT)
    have he := takeL_bad 6 0 l e hT
    have hne : ((e : Int) != 0) = true := by simp; omega
    have HT := Lib.hid hT; clear hT
    clear he
    go_enter Tryz.func194, Tryz.ntmps194
    go_wp2_with fail
    refine (Take_l l w hs).mono ?_
    rintro e1 w1 ⟨rfl, hq⟩
    rw [HT.out, tkRes_bad]
    go_wp2
    go_ret3
    rw [R.out, ttRes_bad]
    exact ⟨rfl, hq⟩
  · have hn := (N.take_inv hT).2
    have hl2 : r.length ≤ l.length := by rw [(N.take_inv hT).1]; simp
    by_cases hm : most < n
    · have R := Lib.hid (N.takeT_long hT hm)
      have HT := Lib.hid hT; clear hT
      go_enter Tryz.func194, Tryz.ntmps194
      go_wp2_with fail
      refine (Take_l l w hs).mono ?_
      rintro e1 w1 ⟨rfl, hq⟩
      rw [HT.out, tkRes_ok]
      go_wp2
      go_ret3
      rw [R.out, ttRes_bad]
      exact ⟨rfl, hq⟩
    · by_cases hr : r.length < n
      · have R := Lib.hid (N.takeT_short hT hm hr)
        have HT := Lib.hid hT; clear hT
        go_enter Tryz.func194, Tryz.ntmps194
        go_wp2_with fail
        refine (Take_l l w hs).mono ?_
        rintro e1 w1 ⟨rfl, hq⟩
        rw [HT.out, tkRes_ok]
        go_wp2
        go_ret3
        rw [R.out, ttRes_bad]
        exact ⟨rfl, hq⟩
      · have R := Lib.hid (N.takeT_ok hT hm hr)
        have hnb : n ≤ (B r).size := by rw [size_B]; omega
        have HT := Lib.hid hT; clear hT
        go_enter Tryz.func194, Tryz.ntmps194
        go_wp2_with fail
        refine (Take_l l w hs).mono ?_
        rintro e1 w1 ⟨rfl, hq⟩
        rw [HT.out, tkRes_ok]
        go_wp2
        go_quiet (fail)
        go_wp2
        go_ret3
        rw [R.out, ttRes_ok]
        exact ⟨rfl, quiet_trans hq ⟨_, rfl⟩⟩

end Go.Proofs.YtmfhipjceeijmaaGreatDoor

/-
  Walks of what the document's answer to layer 2 puts (package bucketlineref2): Put, PutInt, PutText, Fixed.
-/
namespace Go.Proofs.YtmfhipjceeijmaaGreatDoor
open Go.RowKit
attribute [local go_sem] ext_Bd ext_Bl ext_Bt toList_B add_B size_B get_Bt

set_option maxHeartbeats 1000000 in
set_option maxRecDepth 100000 in
theorem refPut_at (n : Int) (N0 : Nat) (HN : Hid (N0 ≤ 1099511627776)) (hk : Hid (N.held n = N0)) (w : World) :
    Calls Tryz.prog 80 #[.int .i64 n] w fun e w' => e = .returned (.string (B (N.putL N0))) ∧ Below w.heap.size w w' := by
  obtain ⟨i0, hi, hz0, hz1, hz2⟩ := info_parts Tryz.infoByte
  rcases (by omega : n ≤ 0 ∨ (0 < n ∧ n ≤ 1099511627776) ∨ 1099511627776 < n) with h | ⟨h, h'⟩ | h
  all_goals
    go_enter Tryz.func80, Tryz.ntmps80
    go_wp2
    go_loopw [3, 0] (fun v a wr => ∃ (m : Nat) (acc : List UInt8), a = .int .i64 m ∧ PutAt N0 w v wr m acc) (fun _ a _ => (intOf a).toNat)
    case atStart => exact ⟨N0, [], by rw [← hk.out]; unfold N.held; congr 1; omega, PutAt.start N0 w HN.out⟩
    case round =>
      rename_i v _
      obtain ⟨m, acc, rfl, hg⟩ := hrel
      have hle := hg.le
      have hlen := hg.len
      have hown := hg.own
      have hsz := hg.bel.size
      have HG := Lib.hid hg; clear hg
      by_cases hm : m < 128
      · go_wp2_with (at_builtin; refine wpList_append_own _ rfl _ _ 106 rfl w.heap.size 5 i0 (.int .u8 0) 1 1 Tryz.underlying106 hi hz0 hz1 hz2 rfl (by decide) _ _ _ rfl (hown.alloc _) ⟨wr.heap.size, 0, none⟩ 1 1 [.int .u8 m] rfl rfl (cell_one_new _ _ _) (by intro u hu; simp at hu; subst hu; rfl) (by unfold maxLen; omega) (by omega) (by simp; omega) ?_; intro v' w1 hown' hgrow _; have hcv := conv_owned (HG.out.last hm hgrow hown').2)
        go_ret
        exact ⟨rfl, (HG.out.last hm hgrow hown').1⟩
      · go_wp2_with (at_builtin; refine wpList_append_own _ rfl _ _ 106 rfl w.heap.size 5 i0 (.int .u8 0) 1 1 Tryz.underlying106 hi hz0 hz1 hz2 rfl (by decide) _ _ _ rfl (hown.alloc _) ⟨wr.heap.size, 0, none⟩ 1 1 [.int .u8 ((m % 128 + 128 : Nat) : Int)] rfl rfl (cell_one_new _ _ _) (by intro u hu; simp at hu; subst hu; rfl) (by unfold maxLen; omega) (by omega) (by simp; omega) ?_; intro v' w1 hown' hgrow _)
        have R := Lib.hid (HG.out.step HN.out hm rfl hgrow hown')
        clear hown' hgrow
        go_wp2
        go_roundw
        case rel => exact ⟨_, _, by go_num, R.out⟩
        case measure => simp [intOf]; omega
theorem refPut_any (n : Int) (w : World) :
    Calls Tryz.prog 80 #[.int .i64 n] w fun e w' => e = .returned (.string (B (N.putL (N.held n)))) ∧ Below w.heap.size w w' :=
  refPut_at n _ (Lib.hid (N.held_le n)) (Lib.hid rfl) w
theorem refPut_l (n : Nat) (w : World) (h : n ≤ 1099511627776) :
    Calls Tryz.prog 80 #[.int .i64 n] w fun e w' => e = .returned (.string (B (N.putL n))) ∧ Below w.heap.size w w' := by
  have := refPut_any n w
  rwa [show N.held n = n by unfold N.held; omega] at this

set_option maxHeartbeats 1000000 in
set_option maxRecDepth 100000 in
theorem refPutInt_at (n k : Int) (hk : Hid (N.heldI n = k)) (w : World) :
    Calls Tryz.prog 140 #[.int .i64 n] w fun e w' => e = .returned (.string (B (N.putL (N.held (N.zig k))))) ∧ Below w.heap.size w w' := by
  rcases (by omega : n ≤ -549755813888 ∨ (-549755813888 < n ∧ n < 0) ∨ (0 ≤ n ∧ n ≤ 549755813888) ∨ 549755813888 < n) with h | ⟨h, h'⟩ | ⟨h, h'⟩ | h
  all_goals
    go_enter Tryz.func140, Tryz.ntmps140
    go_wp2_with fail
    refine (refPut_any _ _).mono ?_
    rintro e w1 ⟨rfl, hb1⟩
    go_wp2
    go_ret
    refine ⟨ret_str ?_, hb1⟩
    rw [← hk.out]
    congr 3
    unfold N.zig N.heldI
    split <;> omega
theorem refPutInt_any (n : Int) (w : World) :
    Calls Tryz.prog 140 #[.int .i64 n] w fun e w' => e = .returned (.string (B (N.putL (N.zigN n)))) ∧ Below w.heap.size w w' := by
  rw [← N.held_zig]
  exact refPutInt_at n _ (Lib.hid rfl) w

set_option maxHeartbeats 1000000 in
theorem refPutText_l (l : List UInt8) (w : World) (h : l.length ≤ 1000000) :
    Calls Tryz.prog 139 #[.string (B l)] w fun e w' => e = .returned (.string (B (N.putT l))) ∧ Below w.heap.size w w' := by
  have hl := N.putL_len6 (m := l.length) (by omega)
  go_enter Tryz.func139, Tryz.ntmps139
  go_wp2_with fail
  refine (refPut_l l.length _ (by omega)).mono ?_
  rintro e w1 ⟨rfl, hb1⟩
  go_wp2
  go_ret
  exact ⟨rfl, hb1⟩

end Go.Proofs.YtmfhipjceeijmaaGreatDoor

/-
  Walks of package crc: dropBit, and halves, which makes the table.
-/
namespace Go.Proofs.YtmfhipjceeijmaaGreatDoor
open Go.RowKit
attribute [local go_sem] ext_Bd ext_Bl ext_Bt toList_B add_B size_B get_Bt

theorem and1_even {r : Nat} (h : r < 4294967296) (h2 : r % 2 = 0) : (bits BinOp.and IntKind.u32 (r : Int) 1 == 0) = true := by
  have hb := u32_and_nat r 1 h (by omega)
  rw [nat_mask1, h2] at hb
  exact beq_iff_eq.2 hb
theorem and1_odd {r : Nat} (h : r < 4294967296) (h2 : r % 2 = 1) : (bits BinOp.and IntKind.u32 (r : Int) 1 == 0) = false := by
  have hb := u32_and_nat r 1 h (by omega)
  rw [nat_mask1, h2] at hb
  rw [show bits BinOp.and IntKind.u32 (r : Int) 1 = 1 from hb]
  rfl
theorem poly_odd {r : Nat} (h : r < 4294967296) (h2 : r % 2 = 1) : bits BinOp.xor IntKind.u32 ((r : Int) / 2) 3988292384 = ((C.step r : Nat) : Int) := by
  rw [C.step_odd h2]
  exact u32_xor_nat (r / 2) 3988292384 (by omega) (by omega)

set_option maxRecDepth 100000 in
theorem dropBit_c (r : Nat) (w : World) (h : r < 4294967296) :
    Calls Tryz.prog 203 #[.int .u32 r] w fun e w' => e = .returned (.int .u32 (C.step r : Nat)) ∧ w' = w := by
  by_cases h2 : r % 2 = 0
  · have HS := Lib.hid (C.step_even h2)
    have hb := and1_even h h2
    clear h2 h
    go_enter Tryz.func203, Tryz.ntmps203
    go_wp2
    go_ret
    rw [HS.out]
    exact ⟨rfl, rfl⟩
  · have h3 : r % 2 = 1 := by omega
    have HS := Lib.hid (poly_odd h h3)
    have hb := and1_odd h h3
    clear h2 h3 h
    go_enter Tryz.func203, Tryz.ntmps203
    go_wp2
    go_ret
    exact ⟨ret_int HS.out, rfl⟩

/-- The table, as far as it is filled. -/
def tabTo (k : Nat) : Array Value := ((List.range 16).map fun i => Value.int .u32 ((if i < k then C.steps 4 i else 0 : Nat) : Int)).toArray
theorem tabTo_set (k : Nat) : (tabTo k).setIfInBounds k (.int .u32 (C.steps 4 k : Nat)) = tabTo (k + 1) := by
  apply Array.ext
  · simp [tabTo]
  · intro i h1 h2
    have hi : i < 16 := by simpa [tabTo] using h2
    by_cases hk : k = i
    · subst hk
      simp [tabTo]
    · have h3 : (i < k + 1) = (i < k) := by simp; omega
      rw [Array.getElem_setIfInBounds (by simpa [tabTo] using hi), if_neg hk]
      simp only [tabTo, List.getElem_toArray, List.getElem_map, List.getElem_range, h3]
theorem tabTo_size (k : Nat) : (tabTo k).size = 16 := by simp [tabTo]
def tab : Array Value := #[.int .u32 0, .int .u32 498536548, .int .u32 997073096, .int .u32 651767980, .int .u32 1994146192, .int .u32 1802195444, .int .u32 1303535960, .int .u32 1342533948, .int .u32 3988292384, .int .u32 4027552580, .int .u32 3604390888, .int .u32 3412177804, .int .u32 2607071920, .int .u32 2262029012, .int .u32 2685067896, .int .u32 3183342108]
theorem tab_none : tabTo 0 = #[.int .u32 0, .int .u32 0, .int .u32 0, .int .u32 0, .int .u32 0, .int .u32 0, .int .u32 0, .int .u32 0, .int .u32 0, .int .u32 0, .int .u32 0, .int .u32 0, .int .u32 0, .int .u32 0, .int .u32 0, .int .u32 0] := by kernel_rfl
theorem tab_full : tabTo 16 = tab := by kernel_rfl
theorem tab_at {i : Nat} (h : i < 16) : tab[i]? = some (.int .u32 (C.steps 4 i : Nat)) := by
  rw [← tab_full]
  simp [tabTo, h]

set_option maxHeartbeats 1000000 in
set_option maxRecDepth 100000 in
theorem halves_c (w : World) :
    Calls Tryz.prog 192 #[] w fun e w' => e = .returned (.agg tab) ∧ Below w.heap.size w w' := by
  go_enter Tryz.func192, Tryz.ntmps192
  go_wp2
  go_loopw [4] (fun i wr => ∃ k : Nat, i = .int .i64 k ∧ k ≤ 16 ∧ wr = (w.alloc (.cells (tabTo 0) 222)).alloc (.cells (tabTo k) 222)) (fun i _ => 16 - (intOf i).toNat)
  case atStart => exact ⟨0, rfl, by omega, rfl⟩
  case round =>
    obtain ⟨k, rfl, hk, rfl⟩ := hrel
    by_cases hlt : k < 16
    · have hkb : (k : Int) < 16 := by omega
      have HT := Lib.hid (tabTo_set k)
      go_wp2
      go_loop [3, 9] (fun r j => ∃ m : Nat, j = .int .i64 m ∧ m ≤ 4 ∧ r = .int .u32 (C.steps m k : Nat)) (fun _ j => 4 - (intOf j).toNat)
      case atStart => exact ⟨0, rfl, by omega, rfl⟩
      case round =>
        obtain ⟨m, rfl, hm, rfl⟩ := hrel
        have hr : C.steps m k < 4294967296 := C.steps_lt m (by omega)
        by_cases hm4 : m < 4
        · have hmb : (m : Int) < 4 := by omega
          have HE := Lib.hid (C.steps_end m k)
          generalize C.steps m k = r at *
          go_wp2_with fail
          refine (dropBit_c r _ hr).mono ?_
          rintro e w1 ⟨rfl, rfl⟩
          go_wp2
          go_round
          case rel => exact ⟨m + 1, by go_num, by omega, by rw [HE.out]⟩
          case measure => simp [intOf]; omega
        · have hm5 : m = 4 := by omega
          subst hm5
          generalize hx : C.steps 4 k = x at *
          clear hx
          have hsz := tabTo_size k
          go_wp2
          go_roundw
          case rel => exact ⟨k + 1, by go_num, by omega, by rw [HT.out]⟩
          case measure => simp [intOf]; omega
    · have hk2 : k = 16 := by omega
      subst hk2
      rw [tab_full, tab, tab_none]
      go_wp2
      refine bodyPost_ret (v := .agg tab) (by simp [results, Tryz.results192, go_sem, tab]) rfl ⟨rfl, ?_⟩
      exact ((Below.refl _ _).alloc (Nat.le_refl _) _).alloc (by simp) _
end Go.Proofs.YtmfhipjceeijmaaGreatDoor

/-
  Walks of package crc: dropHalf, Update, Sum.
-/
namespace Go.Proofs.YtmfhipjceeijmaaGreatDoor
open Go.RowKit
attribute [local go_sem] ext_Bd ext_Bl ext_Bt toList_B add_B size_B get_Bt

theorem half_u {r : Nat} (h : r < 4294967296) : bits BinOp.xor IntKind.u32 ((r : Int) / 16) ((C.steps 4 (r % 16) : Nat) : Int) = ((C.steps 4 r : Nat) : Int) := by
  rw [← C.half r]
  exact u32_xor_nat (r / 16) (C.steps 4 (r % 16)) (by omega) (C.steps_lt 4 (by omega))
theorem not_u {c : Nat} (h : c < 4294967296) : bits BinOp.xor IntKind.u32 IntKind.u32.max (c : Int) = ((C.inv c : Nat) : Int) := by
  have e : IntKind.u32.max = ((4294967295 : Nat) : Int) := by decide
  have e2 : C.inv c = 4294967295 ^^^ c := Nat.xor_comm _ _
  rw [e, e2]
  exact u32_xor_nat 4294967295 c (by omega) h

set_option maxRecDepth 100000 in
theorem dropHalf_c (b r : Nat) (w : World) (h : r < 4294967296) (hc : w.cell? ⟨b, r % 16, none⟩ = some (.int .u32 (C.steps 4 (r % 16) : Nat))) :
    Calls Tryz.prog 193 #[.pointer (some ⟨b, 0, none⟩), .int .u32 r] w fun e w' => e = .returned (.int .u32 (C.steps 4 r : Nat)) ∧ w' = w := by
  have HH := Lib.hid (half_u h)
  go_enter Tryz.func193, Tryz.ntmps193
  go_wp2
  go_ret
  exact ⟨ret_int HH.out, rfl⟩

theorem tab_lit : (#[.int .u32 0, .int .u32 498536548, .int .u32 997073096, .int .u32 651767980, .int .u32 1994146192, .int .u32 1802195444, .int .u32 1303535960, .int .u32 1342533948, .int .u32 3988292384, .int .u32 4027552580, .int .u32 3604390888, .int .u32 3412177804, .int .u32 2607071920, .int .u32 2262029012, .int .u32 2685067896, .int .u32 3183342108] : Array Value) = tab := rfl

set_option maxHeartbeats 1000000 in
set_option maxRecDepth 100000 in
theorem Update_l (c : Nat) (l : List UInt8) (w : World) (h : c < 4294967296) (hl : l.length ≤ 100000000) :
    Calls Tryz.prog 166 #[.int .u32 c, .string (B l)] w fun e w' => e = .returned (.int .u32 (C.upd c l : Nat)) ∧ Below w.heap.size w w' := by
  have HN := Lib.hid (not_u h)
  have HC := Lib.hid (C.inv_lt h)
  clear h
  go_enter Tryz.func166, Tryz.ntmps166
  go_wp2_with fail
  refine (halves_c w).mono ?_
  rintro e w1 ⟨rfl, hb1⟩
  rw [tab]
  go_wp2
  rw [tab_lit, HN.out]
  have hb2 : Below w.heap.size w (w1.alloc (.cells tab 222)) := hb1.alloc hb1.size _
  have hcell : ∀ i, i < 16 → (w1.alloc (.cells tab 222)).cell? ⟨w1.heap.size, i, none⟩ = some (.int .u32 (C.steps 4 i : Nat)) := fun i hi => by
    rw [World.cell?_alloc_new]; exact tab_at hi
  have HB := Lib.hid hb2; clear hb2
  have HCE := Lib.hid hcell; clear hcell
  have HU := Lib.hid (show C.upd c l = C.inv (C.reg (C.inv c) l) from rfl)
  generalize w1.alloc (.cells tab 222) = w2 at *
  generalize w1.heap.size = g at *
  generalize C.inv c = r0 at *
  generalize Value.agg tab = vt at *
  clear hb1
  go_loop [6, 13] (fun r i => ∃ k : Nat, i = .int .i64 k ∧ k ≤ l.length ∧ r = .int .u32 (C.reg r0 (l.take k) : Nat)) (fun _ i => l.length - (intOf i).toNat)
  case atStart => exact ⟨0, rfl, by omega, rfl⟩
  case round =>
    obtain ⟨k, rfl, hk, rfl⟩ := hrel
    have hr : C.reg r0 (l.take k) < 4294967296 := C.reg_lt _ HC.out
    by_cases hlt : k < l.length
    · have hkb : (k : Int) < l.length := by omega
      have HE := Lib.hid (C.reg_take r0 hlt)
      have hbt := N.bt_lt l k
      generalize C.reg r0 (l.take k) = r at *
      have hx := u32_xor_nat r (N.bt l k) hr (by omega)
      have HT := Lib.hid (C.eat_two r (N.bt l k))
      have hz : r ^^^ N.bt l k < 4294967296 := Nat.xor_lt_two_pow (n := 32) (by omega) (by omega)
      have HBE := Lib.hid (show (l.getD k 0).toNat = N.bt l k from rfl)
      generalize r ^^^ N.bt l k = z at *
      go_wp2_with fail
      refine (dropHalf_c g z w2 hz (HCE.out _ (Nat.mod_lt _ (by omega)))).mono ?_
      rintro e1 w3 ⟨rfl, rfl⟩
      have hz2 := C.steps_lt 4 hz
      clear hx
      generalize C.steps 4 z = z2 at *
      go_wp2_with fail
      refine (dropHalf_c g z2 _ hz2 (HCE.out _ (Nat.mod_lt _ (by omega)))).mono ?_
      rintro e1 w3 ⟨rfl, rfl⟩
      go_wp2
      go_round
      case rel => exact ⟨k + 1, by go_num, by omega, by rw [HE.out, HBE.out, HT.out]⟩
      case measure => simp [intOf]; omega
    · have HF := Lib.hid (show l.take k = l from List.take_of_length_le (by omega))
      rw [HF.out] at hr ⊢
      have HN2 := Lib.hid (not_u hr)
      generalize C.reg r0 l = r at *
      go_wp2
      go_ret
      rw [HU.out]
      exact ⟨ret_int HN2.out, HB.out⟩

set_option maxRecDepth 100000 in
theorem Sum_l (l : List UInt8) (w : World) (hl : l.length ≤ 100000000) :
    Calls Tryz.prog 167 #[.string (B l)] w fun e w' => e = .returned (.int .u32 (C.upd 0 l : Nat)) ∧ Below w.heap.size w w' := by
  go_enter Tryz.func167, Tryz.ntmps167
  go_wp2_with fail
  refine (Update_l 0 l w (by omega) hl).mono ?_
  rintro e w1 ⟨rfl, hb1⟩
  generalize hx : C.upd 0 l = x at *
  have HX := Lib.hid hx; clear hx
  go_wp2
  go_ret
  rw [HX.out]
  exact ⟨rfl, hb1⟩
end Go.Proofs.YtmfhipjceeijmaaGreatDoor

/-
  The document's answer to num.Take, walked.
-/
namespace Go.Proofs.YtmfhipjceeijmaaGreatDoor
open Go.RowKit
attribute [local go_sem] ext_Bd ext_Bl ext_Bt toList_B add_B size_B get_Bt

set_option maxHeartbeats 4000000 in
set_option maxRecDepth 100000 in
theorem refTake_l (l : List UInt8) (w : World) (hs : l.length ≤ 100000000) :
    Calls Tryz.prog 44 #[.string (B l)] w fun e w' => e = .returned (tkRes (N.takeL l)) ∧ sQuiet w w' := by
  go_enter Tryz.func44, Tryz.ntmps44
  go_wp2
  go_loop [5, 6, 7] (fun a b i => ∃ k n u : Nat, a = .int .i64 n ∧ b = .int .i64 u ∧ i = .int .i64 k ∧ k ≤ l.length ∧ Hid (u = 128 ^ k) ∧ TkAt l k n) (fun _ _ i => l.length - (intOf i).toNat)
  case atStart => exact ⟨0, 0, 1, rfl, rfl, rfl, by omega, Lib.hid rfl, TkAt.start l⟩
  case round =>
    obtain ⟨k, n, u, rfl, rfl, rfl, hk, HU, hg⟩ := hrel
    have hlt := hg.lt
    have hk6 := hg.le
    have HG := Lib.hid hg; clear hg
    by_cases hkl : k < l.length
    · have hb := N.bt_lt l k
      have hkb : k < (B l).size := by rw [size_B]; exact hkl
      rcases (by omega : k = 0 ∨ k = 1 ∨ k = 2 ∨ k = 3 ∨ k = 4 ∨ k = 5 ∨ k = 6) with rfl | rfl | rfl | rfl | rfl | rfl | rfl
      · obtain rfl : u = 1 := HU.out
        have hn : n < 1 := hlt
        clear hlt HU
        by_cases hc : 128 ≤ N.bt l 0
        · have R : Hid (TkAt l 1 (n + N.bt l 0 % 128 * 1)) := Lib.hid (HG.out.more (by omega) hkl hc)
          go_wp2
          go_round
          case rel => exact ⟨1, n + N.bt l 0 % 128 * 1, 128, by go_num, by go_num, rfl, by omega, Lib.hid rfl, R.out⟩
          case measure => simp [intOf]; omega
        · have hc2 : N.bt l 0 < 128 := by omega
          by_cases hz : N.bt l 0 = 0
          · have hzb : ((N.bt l 0 : Int) == 0) = true := by simp; omega
            have R : Hid (N.takeL l = .ok (n + N.bt l 0 % 128 * 1) (l.drop 1)) := Lib.hid (HG.out.ok (by omega) hkl hc2 (by omega) (by omega))
            clear hz hc
            go_wp2
            go_quiet (fail)
            go_wp2
            go_ret3
            rw [R.out, tkRes_ok]
            exact ⟨by simp, _, rfl⟩
          · have hzb : ((N.bt l 0 : Int) == 0) = false := by simp; omega
            have R : Hid (N.takeL l = .ok (n + N.bt l 0 % 128 * 1) (l.drop 1)) := Lib.hid (HG.out.ok (by omega) hkl hc2 (by omega) (by omega))
            clear hz hc
            go_wp2
            go_quiet (fail)
            go_wp2
            go_ret3
            rw [R.out, tkRes_ok]
            exact ⟨by simp, _, rfl⟩
      · obtain rfl : u = 128 := HU.out
        have hn : n < 128 := hlt
        clear hlt HU
        by_cases hc : 128 ≤ N.bt l 1
        · have R : Hid (TkAt l 2 (n + N.bt l 1 % 128 * 128)) := Lib.hid (HG.out.more (by omega) hkl hc)
          go_wp2
          go_round
          case rel => exact ⟨2, n + N.bt l 1 % 128 * 128, 16384, by go_num, by go_num, rfl, by omega, Lib.hid rfl, R.out⟩
          case measure => simp [intOf]; omega
        · have hc2 : N.bt l 1 < 128 := by omega
          by_cases hz : N.bt l 1 = 0
          · have hzb : ((N.bt l 1 : Int) == 0) = true := by simp; omega
            have R := Lib.hid (HG.out.zero (by omega) hkl hz (by omega))
            clear hz hc
            go_wp2
            go_ret3
            rw [R.out, tkRes_bad]
            exact ⟨rfl, 0, rfl⟩
          · have hzb : ((N.bt l 1 : Int) == 0) = false := by simp; omega
            have R : Hid (N.takeL l = .ok (n + N.bt l 1 % 128 * 128) (l.drop 2)) := Lib.hid (HG.out.ok (by omega) hkl hc2 (by omega) (by omega))
            clear hz hc
            go_wp2
            go_quiet (fail)
            go_wp2
            go_ret3
            rw [R.out, tkRes_ok]
            exact ⟨by simp, _, rfl⟩
      · obtain rfl : u = 16384 := HU.out
        have hn : n < 16384 := hlt
        clear hlt HU
        by_cases hc : 128 ≤ N.bt l 2
        · have R : Hid (TkAt l 3 (n + N.bt l 2 % 128 * 16384)) := Lib.hid (HG.out.more (by omega) hkl hc)
          go_wp2
          go_round
          case rel => exact ⟨3, n + N.bt l 2 % 128 * 16384, 2097152, by go_num, by go_num, rfl, by omega, Lib.hid rfl, R.out⟩
          case measure => simp [intOf]; omega
        · have hc2 : N.bt l 2 < 128 := by omega
          by_cases hz : N.bt l 2 = 0
          · have hzb : ((N.bt l 2 : Int) == 0) = true := by simp; omega
            have R := Lib.hid (HG.out.zero (by omega) hkl hz (by omega))
            clear hz hc
            go_wp2
            go_ret3
            rw [R.out, tkRes_bad]
            exact ⟨rfl, 0, rfl⟩
          · have hzb : ((N.bt l 2 : Int) == 0) = false := by simp; omega
            have R : Hid (N.takeL l = .ok (n + N.bt l 2 % 128 * 16384) (l.drop 3)) := Lib.hid (HG.out.ok (by omega) hkl hc2 (by omega) (by omega))
            clear hz hc
            go_wp2
            go_quiet (fail)
            go_wp2
            go_ret3
            rw [R.out, tkRes_ok]
            exact ⟨by simp, _, rfl⟩
      · obtain rfl : u = 2097152 := HU.out
        have hn : n < 2097152 := hlt
        clear hlt HU
        by_cases hc : 128 ≤ N.bt l 3
        · have R : Hid (TkAt l 4 (n + N.bt l 3 % 128 * 2097152)) := Lib.hid (HG.out.more (by omega) hkl hc)
          go_wp2
          go_round
          case rel => exact ⟨4, n + N.bt l 3 % 128 * 2097152, 268435456, by go_num, by go_num, rfl, by omega, Lib.hid rfl, R.out⟩
          case measure => simp [intOf]; omega
        · have hc2 : N.bt l 3 < 128 := by omega
          by_cases hz : N.bt l 3 = 0
          · have hzb : ((N.bt l 3 : Int) == 0) = true := by simp; omega
            have R := Lib.hid (HG.out.zero (by omega) hkl hz (by omega))
            clear hz hc
            go_wp2
            go_ret3
            rw [R.out, tkRes_bad]
            exact ⟨rfl, 0, rfl⟩
          · have hzb : ((N.bt l 3 : Int) == 0) = false := by simp; omega
            have R : Hid (N.takeL l = .ok (n + N.bt l 3 % 128 * 2097152) (l.drop 4)) := Lib.hid (HG.out.ok (by omega) hkl hc2 (by omega) (by omega))
            clear hz hc
            go_wp2
            go_quiet (fail)
            go_wp2
            go_ret3
            rw [R.out, tkRes_ok]
            exact ⟨by simp, _, rfl⟩
      · obtain rfl : u = 268435456 := HU.out
        have hn : n < 268435456 := hlt
        clear hlt HU
        by_cases hc : 128 ≤ N.bt l 4
        · have R : Hid (TkAt l 5 (n + N.bt l 4 % 128 * 268435456)) := Lib.hid (HG.out.more (by omega) hkl hc)
          go_wp2
          go_round
          case rel => exact ⟨5, n + N.bt l 4 % 128 * 268435456, 34359738368, by go_num, by go_num, rfl, by omega, Lib.hid rfl, R.out⟩
          case measure => simp [intOf]; omega
        · have hc2 : N.bt l 4 < 128 := by omega
          by_cases hz : N.bt l 4 = 0
          · have hzb : ((N.bt l 4 : Int) == 0) = true := by simp; omega
            have R := Lib.hid (HG.out.zero (by omega) hkl hz (by omega))
            clear hz hc
            go_wp2
            go_ret3
            rw [R.out, tkRes_bad]
            exact ⟨rfl, 0, rfl⟩
          · have hzb : ((N.bt l 4 : Int) == 0) = false := by simp; omega
            have R : Hid (N.takeL l = .ok (n + N.bt l 4 % 128 * 268435456) (l.drop 5)) := Lib.hid (HG.out.ok (by omega) hkl hc2 (by omega) (by omega))
            clear hz hc
            go_wp2
            go_quiet (fail)
            go_wp2
            go_ret3
            rw [R.out, tkRes_ok]
            exact ⟨by simp, _, rfl⟩
      · obtain rfl : u = 34359738368 := HU.out
        have hn : n < 34359738368 := hlt
        clear hlt HU
        by_cases hc : 128 ≤ N.bt l 5
        · have R : Hid (TkAt l 6 (n + N.bt l 5 % 128 * 34359738368)) := Lib.hid (HG.out.more (by omega) hkl hc)
          go_wp2
          go_round
          case rel => exact ⟨6, n + N.bt l 5 % 128 * 34359738368, 4398046511104, by go_num, by go_num, rfl, by omega, Lib.hid rfl, R.out⟩
          case measure => simp [intOf]; omega
        · have hc2 : N.bt l 5 < 128 := by omega
          by_cases hz : N.bt l 5 = 0
          · have hzb : ((N.bt l 5 : Int) == 0) = true := by simp; omega
            have R := Lib.hid (HG.out.zero (by omega) hkl hz (by omega))
            clear hz hc
            go_wp2
            go_ret3
            rw [R.out, tkRes_bad]
            exact ⟨rfl, 0, rfl⟩
          · have hzb : ((N.bt l 5 : Int) == 0) = false := by simp; omega
            by_cases hg : 1099511627776 < n + N.bt l 5 % 128 * 34359738368
            · have R := Lib.hid (HG.out.long (by omega) hkl hc2 (by omega) hg)
              clear hz hc
              go_wp2
              go_ret3
              rw [R.out, tkRes_bad]
              exact ⟨rfl, 0, rfl⟩
            · have R : Hid (N.takeL l = .ok (n + N.bt l 5 % 128 * 34359738368) (l.drop 6)) := Lib.hid (HG.out.ok (by omega) hkl hc2 (by omega) hg)
              clear hz hc
              go_wp2
              go_quiet (fail)
              go_wp2
              go_ret3
              rw [R.out, tkRes_ok]
              exact ⟨by simp, _, rfl⟩
      · have R := Lib.hid (HG.out.out (by omega) hkl)
        go_wp2
        go_ret3
        rw [R.out, tkRes_bad]
        exact ⟨rfl, 0, rfl⟩
    · have R := Lib.hid (HG.out.over hkl)
      go_wp2
      go_ret3
      rw [R.out, tkRes_bad]
      exact ⟨rfl, 0, rfl⟩
end Go.Proofs.YtmfhipjceeijmaaGreatDoor

/-
  The document's answer to num.TakeInt and TakeText, walked.
-/
namespace Go.Proofs.YtmfhipjceeijmaaGreatDoor
open Go.RowKit
attribute [local go_sem] ext_Bd ext_Bl ext_Bt toList_B add_B size_B get_Bt

set_option maxHeartbeats 1000000 in
set_option maxRecDepth 100000 in
theorem refTakeText_l (l : List UInt8) (most : Int) (w : World) (hs : l.length ≤ 100000000) :
    Calls Tryz.prog 109 #[.string (B l), .int .i64 most] w fun e w' => e = .returned (ttRes (N.takeT l most)) ∧ sQuiet w w' := by
  rcases N.takeL_cases l with ⟨e, hT⟩ | ⟨n, r, hT⟩
  · have R := Lib.hid (N.takeT_bad most hT)
    have he := takeL_bad 6 0 l e hT
    have hne : ((e : Int) == 0) = false := beq_eq_false_iff_ne.2 (by omega)
    have hne2 : ¬ (e : Int) = 0 := by omega
    have HT := Lib.hid hT; clear hT
    clear he
    go_enter Tryz.func109, Tryz.ntmps109
    go_wp2_with fail
    refine (refTake_l l w hs).mono ?_
    rintro e1 w1 ⟨rfl, hq⟩
    rw [HT.out, tkRes_bad]
    go_wp2
    go_ret3
    rw [R.out, ttRes_bad]
    exact ⟨rfl, hq⟩
  · have hn := (N.take_inv hT).2
    have hl2 : r.length ≤ l.length := by rw [(N.take_inv hT).1]; simp
    by_cases hm : most < n
    · have R := Lib.hid (N.takeT_long hT hm)
      have HT := Lib.hid hT; clear hT
      go_enter Tryz.func109, Tryz.ntmps109
      go_wp2_with fail
      refine (refTake_l l w hs).mono ?_
      rintro e1 w1 ⟨rfl, hq⟩
      rw [HT.out, tkRes_ok]
      go_wp2
      go_ret3
      rw [R.out, ttRes_bad]
      exact ⟨rfl, hq⟩
    · by_cases hr : r.length < n
      · have R := Lib.hid (N.takeT_short hT hm hr)
        have HT := Lib.hid hT; clear hT
        go_enter Tryz.func109, Tryz.ntmps109
        go_wp2_with fail
        refine (refTake_l l w hs).mono ?_
        rintro e1 w1 ⟨rfl, hq⟩
        rw [HT.out, tkRes_ok]
        go_wp2
        go_ret3
        rw [R.out, ttRes_bad]
        exact ⟨rfl, hq⟩
      · have R := Lib.hid (N.takeT_ok hT hm hr)
        have hnb : n ≤ (B r).size := by rw [size_B]; omega
        have HT := Lib.hid hT; clear hT
        go_enter Tryz.func109, Tryz.ntmps109
        go_wp2_with fail
        refine (refTake_l l w hs).mono ?_
        rintro e1 w1 ⟨rfl, hq⟩
        rw [HT.out, tkRes_ok]
        go_wp2
        go_quiet (fail)
        go_wp2
        go_ret3
        rw [R.out, ttRes_ok]
        exact ⟨rfl, quiet_trans hq ⟨_, rfl⟩⟩

set_option maxHeartbeats 1000000 in
set_option maxRecDepth 100000 in
theorem refTakeInt_l (l : List UInt8) (w : World) (hs : l.length ≤ 100000000) :
    Calls Tryz.prog 110 #[.string (B l)] w fun e w' => e = .returned (tiRes (N.takeL l)) ∧ sQuiet w w' := by
  rcases N.takeL_cases l with ⟨e, hT⟩ | ⟨n, r, hT⟩
  · rw [hT]
    have he := takeL_bad 6 0 l e hT
    have hne : ((e : Int) == 0) = false := beq_eq_false_iff_ne.2 (by omega)
    have hne2 : ¬ (e : Int) = 0 := by omega
    have HT := Lib.hid hT; clear hT he
    go_enter Tryz.func110, Tryz.ntmps110
    go_wp2_with fail
    refine (refTake_l l w hs).mono ?_
    rintro e1 w1 ⟨rfl, hq⟩
    rw [HT.out, tkRes_bad]
    go_wp2
    go_ret3
    rw [tiRes_bad]
    exact ⟨rfl, hq⟩
  · rw [hT]
    have hn := (N.take_inv hT).2
    have HT := Lib.hid hT; clear hT
    by_cases h2 : n % 2 = 1
    · have h2b : ((n : Int) % 2 == 0) = false := by simp; omega
      have HZ := Lib.hid (show N.zag n = -((n : Int) + 1) / 2 by unfold N.zag; rw [if_pos h2])
      have H2 := Lib.hid h2; clear h2
      go_enter Tryz.func110, Tryz.ntmps110
      go_wp2_with fail
      refine (refTake_l l w hs).mono ?_
      rintro e1 w1 ⟨rfl, hq⟩
      rw [HT.out, tkRes_ok]
      go_wp2
      go_ret3
      rw [tiRes_ok, HZ.out]
      exact ⟨ret_tri (int_eq (zag_walk hn H2.out)) rfl rfl, hq⟩
    · have h2b : ((n : Int) % 2 == 0) = true := by simp; omega
      have HZ := Lib.hid (show N.zag n = (n : Int) / 2 by unfold N.zag; rw [if_neg h2])
      have H2 := Lib.hid h2; clear h2
      go_enter Tryz.func110, Tryz.ntmps110
      go_wp2_with fail
      refine (refTake_l l w hs).mono ?_
      rintro e1 w1 ⟨rfl, hq⟩
      rw [HT.out, tkRes_ok]
      go_wp2
      go_ret3
      rw [tiRes_ok, HZ.out]
      exact ⟨ret_tri (int_eq (by omega)) rfl rfl, hq⟩
end Go.Proofs.YtmfhipjceeijmaaGreatDoor

/-
  Walks of the document's answer to layer 3 (package bucketlineref3): Update, bit by bit, and Sum.
-/
namespace Go.Proofs.YtmfhipjceeijmaaGreatDoor
open Go.RowKit
attribute [local go_sem] ext_Bd ext_Bl ext_Bt toList_B add_B size_B get_Bt

theorem and1_even1 {r : Nat} (h : r < 4294967296) (h2 : r % 2 = 0) : bits BinOp.and IntKind.u32 (r : Int) 1 = 0 := by
  have hb := u32_and_nat r 1 h (by omega)
  rw [nat_mask1, h2] at hb
  exact hb
theorem and1_odd1 {r : Nat} (h : r < 4294967296) (h2 : r % 2 = 1) : bits BinOp.and IntKind.u32 (r : Int) 1 = 1 := by
  have hb := u32_and_nat r 1 h (by omega)
  rw [nat_mask1, h2] at hb
  exact hb

set_option maxHeartbeats 1000000 in
set_option maxRecDepth 100000 in
theorem RefUpdate_l (c : Nat) (l : List UInt8) (w : World) (h : c < 4294967296) (hl : l.length ≤ 100000000) :
    Calls Tryz.prog 137 #[.int .u32 c, .string (B l)] w fun e w' => e = .returned (.int .u32 (C.upd c l : Nat)) ∧ w' = w := by
  have HN := Lib.hid (not_u h)
  have HC := Lib.hid (C.inv_lt h)
  have HU := Lib.hid (show C.upd c l = C.inv (C.reg (C.inv c) l) from rfl)
  clear h
  go_enter Tryz.func137, Tryz.ntmps137
  go_wp2
  rw [HN.out]
  generalize C.inv c = r0 at *
  go_loop [5, 6] (fun r i => ∃ k : Nat, i = .int .i64 k ∧ k ≤ l.length ∧ r = .int .u32 (C.reg r0 (l.take k) : Nat)) (fun _ i => l.length - (intOf i).toNat)
  case atStart => exact ⟨0, rfl, by omega, rfl⟩
  case round =>
    obtain ⟨k, rfl, hk, rfl⟩ := hrel
    have hr : C.reg r0 (l.take k) < 4294967296 := C.reg_lt _ HC.out
    by_cases hlt : k < l.length
    · have hkb : (k : Int) < l.length := by omega
      have HE := Lib.hid (C.reg_take r0 hlt)
      have hbt := N.bt_lt l k
      generalize C.reg r0 (l.take k) = r at *
      have hx := u32_xor_nat r (N.bt l k) hr (by omega)
      have HT := Lib.hid (show C.eat r (N.bt l k) = C.steps 8 (r ^^^ N.bt l k) from rfl)
      have hz : r ^^^ N.bt l k < 4294967296 := Nat.xor_lt_two_pow (n := 32) (by omega) (by omega)
      have HBE := Lib.hid (show (l.getD k 0).toNat = N.bt l k from rfl)
      generalize r ^^^ N.bt l k = z at *
      go_wp2
      clear hx hr hbt
      go_loop [5, 7] (fun r j => ∃ m : Nat, j = .int .i64 m ∧ m ≤ 8 ∧ r = .int .u32 (C.steps m z : Nat)) (fun _ j => 8 - (intOf j).toNat)
      case atStart => exact ⟨0, rfl, by omega, rfl⟩
      case round =>
        obtain ⟨m, rfl, hm, rfl⟩ := hrel
        have hy : C.steps m z < 4294967296 := C.steps_lt m hz
        by_cases hm8 : m < 8
        · have hmb : (m : Int) < 8 := by omega
          have HS := Lib.hid (C.steps_end m z)
          generalize C.steps m z = y at *
          by_cases h2 : y % 2 = 0
          · have hb := and1_even1 hy h2
            have HV := Lib.hid (C.step_even h2)
            clear h2
            go_wp2
            go_round
            case rel => exact ⟨m + 1, by go_num, by omega, by rw [HS.out, HV.out]; rfl⟩
            case measure => simp [intOf]; omega
          · have h3 : y % 2 = 1 := by omega
            have hb := and1_odd1 hy h3
            have HV := Lib.hid (poly_odd hy h3)
            clear h2 h3
            go_wp2
            go_round
            case rel => exact ⟨m + 1, by go_num, by omega, by rw [HS.out, HV.out]⟩
            case measure => simp [intOf]; omega
        · have hm9 : m = 8 := by omega
          subst hm9
          clear hy
          have HT2 := HT.out
          rw [← HT2] at *
          have HT3 := Lib.hid HT2
          clear HT2
          go_wp2
          go_round
          case rel => exact ⟨k + 1, by go_num, by omega, by rw [HE.out, HBE.out]⟩
          case measure => simp [intOf]; omega
    · have HF := Lib.hid (show l.take k = l from List.take_of_length_le (by omega))
      rw [HF.out] at hr ⊢
      have HN2 := Lib.hid (not_u hr)
      generalize C.reg r0 l = r at *
      go_wp2
      go_ret
      rw [HU.out]
      exact ⟨ret_int HN2.out, rfl⟩

set_option maxRecDepth 100000 in
theorem RefSum_l (l : List UInt8) (w : World) (hl : l.length ≤ 100000000) :
    Calls Tryz.prog 108 #[.string (B l)] w fun e w' => e = .returned (.int .u32 (C.upd 0 l : Nat)) ∧ w' = w := by
  go_enter Tryz.func108, Tryz.ntmps108
  go_wp2_with fail
  refine (RefUpdate_l 0 l w (by omega) hl).mono ?_
  rintro e w1 ⟨rfl, rfl⟩
  generalize hx : C.upd 0 l = x at *
  have HX := Lib.hid hx; clear hx
  go_wp2
  go_ret
  rw [HX.out]
  exact ⟨rfl, rfl⟩
end Go.Proofs.YtmfhipjceeijmaaGreatDoor
