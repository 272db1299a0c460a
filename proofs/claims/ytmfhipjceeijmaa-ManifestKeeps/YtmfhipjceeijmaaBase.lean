/-
  Texts as lists of bytes, and what a call leaves of old memory: rules for the walks.
-/
import Derived.Test.YtmfhipjceeijmaaRows
import Derived.Test.YtmfhipjceeijmaaNumSpec
import Derived.Lib.OthersKept
import Derived.Lib.Hide
import Derived.Lib.BufferRead
import Derived.WalkKit
import Derived.WalkSpells
import Derived.WalkSmall
import Derived.OpenShut
import Derived.SliceStrings
import Derived.Deep.QuietTactic
import Derived.BigQuiet
namespace Go.Proofs.Ytmfhipjceeijmaa
open Go.RowKit

theorem ret_bool {a b : Bool} (h : a = b) : Ending.returned (.bool a) = .returned (.bool b) := by rw [h]
theorem ret_int {k : IntKind} {a b : Int} (h : a = b) : Ending.returned (.int k a) = .returned (.int k b) := by rw [h]
theorem ret_str {a b : ByteArray} (h : a = b) : Ending.returned (.string a) = .returned (.string b) := by rw [h]
theorem ret_two {a a' b b' : Value} (h1 : a = a') (h2 : b = b') : Ending.returned (.tuple #[a, b]) = .returned (.tuple #[a', b']) := by rw [h1, h2]
theorem ret_tri {a a' : Value} {b b' : Value} {c c' : Value} (h1 : a = a') (h2 : b = b') (h3 : c = c') : Ending.returned (.tuple #[a, b, c]) = .returned (.tuple #[a', b', c']) := by rw [h1, h2, h3]
theorem int_eq {k : IntKind} {a b : Int} (h : a = b) : Value.int k a = .int k b := by rw [h]
theorem str_eq {a b : ByteArray} (h : a = b) : Value.string a = .string b := by rw [h]
theorem results_four {fn : Func} {t u v x : Tmp} (h : fn.results = #[.tmp t, .tmp u, .tmp v, .tmp x]) (tmps : Array Value) (P : Program) (w : World) :
    (results fn tmps).run P w = .ok (.tuple #[tmps.getD t undef, tmps.getD u undef, tmps.getD v undef, tmps.getD x undef]) w := by
  simp [results, h]

abbrev L (s : ByteArray) : List UInt8 := s.data.toList
def B (l : List UInt8) : ByteArray := ⟨l.toArray⟩
theorem L_len (s : ByteArray) : (L s).length = s.size := by simp
theorem L_B (l : List UInt8) : L (B l) = l := by simp [B, L]
theorem B_L (s : ByteArray) : B (L s) = s := by simp [B, L]
theorem B_inj {l m : List UInt8} (h : B l = B m) : l = m := by rw [← L_B l, ← L_B m, h]
theorem size_B (l : List UInt8) : (B l).size = l.length := by rw [← L_len, L_B]
theorem ext_list (s : ByteArray) (a b : Nat) : (s.extract a b).data.toList = (s.data.toList.drop a).take (b - a) := by
  simp [ByteArray.data_extract]
theorem ext_B (s : ByteArray) (a b : Nat) : s.extract a b = B (((L s).drop a).take (b - a)) := by
  rw [← B_L (s.extract a b)]; exact congrArg B (ext_list s a b)
theorem ext_Bd (m : List UInt8) (k : Nat) : (B m).extract k (B m).size = B (m.drop k) := by
  rw [ext_B, L_B, List.take_of_length_le (by simp [size_B])]
theorem ext_Bl (m : List UInt8) (k : Nat) : (B m).extract k m.length = B (m.drop k) := by rw [← size_B m, ext_Bd]
theorem ext_Bt (m : List UInt8) (k : Nat) : (B m).extract 0 k = B (m.take k) := by
  rw [ext_B, L_B]; simp
theorem ext_mid2 (m : List UInt8) (a b : Nat) : (B m).extract a b = B ((m.drop a).take (b - a)) := by rw [ext_B, L_B]
theorem toList_B (m : List UInt8) : (B m).toList = m := by rw [Lib.toList_data]; exact L_B m
theorem add_B (l m : List UInt8) : B l ++ B m = B (l ++ m) := ByteArray.mk_append_mk l m
theorem get_B (m : List UInt8) (n : Nat) (h : n < (B m).size) : (B m)[n]'h = m.getD n 0 := by
  have h1 : n < m.length := by rw [size_B] at h; exact h
  show m.toArray[n] = _
  simp [List.getD_eq_getElem?_getD, h1]
theorem get_Bt (m : List UInt8) (n : Nat) (h : n < (B m).size) : ((B m)[n]'h).toNat = N.bt m n := by rw [get_B]; rfl

theorem Try.infoByte : (Try.prog.info? 5).map (fun i => (i.zero, i.size, i.bytes)) = some (some (.int .u8 0), 1, 1) := by kernel_rfl

theorem own_below {w w' : World} {base : Nat} {e : TypeId} {v : Value} {n : Nat} {xs : List Value} (h : w.ownsRow base e 1 v n xs) (hb : Below w.heap.size w w') : w'.ownsRow base e 1 v n xs := by
  refine ⟨h.1, ?_⟩
  rcases h.2 with hn | ⟨g, cap, cur, rfl, hbg, hg, rest⟩
  · exact .inl hn
  · refine .inr ⟨g, cap, cur, rfl, hbg, ?_, rest⟩
    rw [hb.block g (Array.getElem?_eq_some_iff.1 hg).1]
    exact hg
theorem below_grown {w0 w w1 : World} {base : Nat} {e : TypeId} {v : Value} {n : Nat} {xs : List Value} {o : Obj} (hb : Below base w0 w) (hle : base ≤ w.heap.size) (h : w.ownsRow base e 1 v n xs) (hg : (w.alloc o).grownBy w1 v.ownBlock) : Below base w0 w1 :=
  (hb.alloc hle o).grown hg (by simp; omega) (fun _ hk => (h.lt _ hk).1)
theorem chain {P : Program} {f : Nat} {args : Array Value} {w w0 : World} {x : Ending} (h : Calls P f args w fun e w' => e = x ∧ Below w.heap.size w w') (hb : Below w0.heap.size w0 w) :
    Calls P f args w fun e w' => e = x ∧ Below w0.heap.size w0 w' := h.mono fun _ _ ⟨a, b⟩ => ⟨a, hb.trans (b.mono hb.size)⟩
def sQuiet (w wr : World) : Prop := ∃ n, wr = w.drewN n
theorem below_quiet {B : Nat} {w w1 w2 : World} (h : Below B w w1) (hq : sQuiet w1 w2) : Below B w w2 := by
  obtain ⟨n, rfl⟩ := hq
  exact below_drewN h n
theorem quiet_trans {w w1 w2 : World} (h : sQuiet w w1) (h2 : sQuiet w1 w2) : sQuiet w w2 := by
  obtain ⟨a, rfl⟩ := h
  obtain ⟨b, rfl⟩ := h2
  exact ⟨a + b, by simp [World.drewN, Nat.add_assoc]⟩
theorem quiet_two (w : World) (a b : Nat) : sQuiet w ((w.drewN a).drewN b) := ⟨a + b, by simp [World.drewN, Nat.add_assoc]⟩

theorem conv_owned {w : World} {base : Nat} {v : Value} {n : Nat} {l : List UInt8} (h : w.ownsRow base 5 1 v n (Lib.byteCells l)) :
    (convert 53 9 v).run Try.prog w = .ok (.string (B l)) w := by
  have hn : n = l.length := by have := h.1; rw [Lib.byteCells_length] at this; omega
  subst hn
  rcases h.2 with ⟨rfl, h0⟩ | ⟨g, cap, cur, rfl, _, hg, _, _, _, ht⟩
  · have : l = [] := List.length_eq_zero_iff.1 h0
    subst this
    exact Lib.run_convert_nil_bytes w 53 9 5 0 Try.underlying53 Try.underlying5 Try.underlying9
  · exact run_convert_bytes_back w 53 9 5 ⟨g, 0, none⟩ cap l Try.underlying53 Try.underlying5 Try.underlying9 (Lib.bytes_of_row hg (by simpa using ht))

/-- A slice value that reads as a list of cells. -/
def Reads (w : World) (v : Value) (xs : List Value) : Prop :=
  ∃ a cap, v = .slice a xs.length cap ∧ ∀ i, i < xs.length → ∃ b off, a = some ⟨b, off, none⟩ ∧ w.cell? ⟨b, off + i, none⟩ = xs[i]?
theorem reads_own {w : World} {base : Nat} {e : TypeId} {v : Value} {n : Nat} {xs : List Value} (h : w.ownsRow base e 1 v n xs) : Reads w v xs := by
  have hn : xs.length = n := by have := h.1; omega
  subst hn
  rcases h.2 with ⟨rfl, h0⟩ | ⟨g, cap, cur, rfl, _⟩
  · exact ⟨none, 0, by rw [h0], fun i hi => by omega⟩
  · exact ⟨_, cap, rfl, fun i hi => ⟨g, 0, rfl, by rw [Nat.zero_add]; exact h.cellAt i (by omega)⟩⟩
theorem reads_cell {w w' : World} {v : Value} {xs : List Value} (h : Reads w v xs) (hc : ∀ p : Addr, ∀ u, w.cell? p = some u → w'.cell? p = some u) : Reads w' v xs := by
  obtain ⟨a, cap, rfl, hx⟩ := h
  refine ⟨a, cap, rfl, fun i hi => ?_⟩
  obtain ⟨b, off, rfl, he⟩ := hx i hi
  refine ⟨b, off, rfl, ?_⟩
  rw [List.getElem?_eq_getElem hi] at he ⊢
  exact hc _ _ he
theorem reads_below {w w' : World} {v : Value} {xs : List Value} (h : Reads w v xs) (hb : Below w.heap.size w w') : Reads w' v xs :=
  reads_cell h fun p u hu => by rw [hb.cell (World.block_lt_of_cell? w p hu)]; exact hu
def strCells (ws : List (List UInt8)) : List Value := ws.map fun l => .string (B l)
theorem strCells_len (ws : List (List UInt8)) : (strCells ws).length = ws.length := by simp [strCells]
theorem reads_strings {w : World} {a : Addr} {len cap : Nat} {ss : List ByteArray} (hl : len ≤ ss.length) (h : ∀ i, i < ss.length → w.cell? (a.add i) = some (.string (ss.getD i ByteArray.empty))) :
    Reads w (.slice (some a) len cap) (strCells ((ss.take len).map L)) := by
  have hlen : (strCells ((ss.take len).map L)).length = len := by rw [strCells_len, List.length_map, List.length_take]; omega
  refine ⟨some a, cap, by rw [hlen], fun i hi => ?_⟩
  rw [hlen] at hi
  obtain ⟨b, off, spot⟩ := a
  have hspot : spot = none := by simpa [Addr.add] using World.cell?_spot (h 0 (by omega))
  subst hspot
  refine ⟨b, off, rfl, ?_⟩
  have h1 := h i (by omega)
  rw [Go.WideShapes.add_plain] at h1
  rw [h1]
  have hi2 : i < ss.length := by omega
  simp [strCells, hi, hi2, B_L, List.getD_eq_getElem?_getD]
theorem u32_nat {z : Int} (h : (Lit.int .u32 z).wf = true) : ∃ m : Nat, z = m ∧ m < 4294967296 := by
  have h2 : IntKind.u32.min ≤ z ∧ z ≤ IntKind.u32.max := by simpa [Lit.wf] using h
  have e1 : IntKind.u32.min = 0 := by decide
  have e2 : IntKind.u32.max = 4294967295 := by decide
  exact ⟨z.toNat, by omega, by omega⟩
theorem i64_bd {z : Int} (h : (Lit.int .i64 z).wf = true) : -9223372036854775808 ≤ z ∧ z ≤ 9223372036854775807 := by
  have h2 : IntKind.i64.min ≤ z ∧ z ≤ IntKind.i64.max := by simpa [Lit.wf] using h
  have e1 : IntKind.i64.min = -9223372036854775808 := by decide
  have e2 : IntKind.i64.max = 9223372036854775807 := by decide
  omega
end Go.Proofs.Ytmfhipjceeijmaa
