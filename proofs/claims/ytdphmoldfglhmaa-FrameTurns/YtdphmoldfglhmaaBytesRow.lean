/-
  A row of bytes made by []byte(s), written cell by cell; bits that are turned in it.
-/
import Derived.Test.YtdphmoldfglhmaaBase
import Derived.Test.YtdphmoldfglhmaaCrcSpec
import Derived.Laws.BitsAllLaws
import Derived.Laws.IdiomStrings
namespace Go.Proofs.Ytdphmoldfglhmaa
open Go.RowKit

/-- Block g holds the bytes of a text, in memory that was not there before. -/
structure Row (w0 wr : World) (g : Nat) (l : List UInt8) : Prop where
  cell : ∀ j, j < l.length → wr.cell? ⟨g, j, none⟩ = some (.int .u8 (N.bt l j : Nat))
  loose : ∀ j, j < l.length → wr.frozen? ⟨g, j, none⟩ = false
  new : w0.heap.size ≤ g
  below : Below w0.heap.size w0 wr
theorem row_made {w w1 : World} (hb : Below w.heap.size w w1) (l : List UInt8) (k : Nat) :
    Row w (w1.alloc (.cells (bytesRow (B l) k) 5 ((bytesRow (B l) k).size, (bytesRow (B l) k).size + 1))).drew w1.heap.size l := by
  have hs : ∀ j, j < l.length → j < (bytesRow (B l) k).size := fun j hj => by
    have : j < (B l).data.size := by simpa [B] using hj
    exact (Array.getElem?_eq_some_iff.1 (bytesRow_at (B l) k j this)).1
  refine ⟨fun j hj => ?_, fun j hj => ?_, hb.size, (hb.alloc hb.size _).drew⟩
  · show (w1.alloc _).cell? _ = _
    have : j < (B l).data.size := by simpa [B] using hj
    rw [World.cell?_alloc_mark, bytesRow_at (B l) k j this]
    simp [B, N.bt, List.getD_eq_getElem?_getD, hj]
  · show (w1.alloc _).frozen? _ = _
    rw [World.frozen?_alloc_mark]
    have := hs j hj
    have h2 : ¬ (bytesRow (B l) k).size ≤ j := by omega
    simp [h2]
theorem Row.conv {w wr : World} {g : Nat} {t : List UInt8} (h : Row w wr g t) (cap : Nat) {n : Nat} (hn : n = t.length) :
    (convert 38 9 (.slice (some ⟨g, 0, none⟩) n cap)).run Try.prog wr = .ok (.string (B t)) wr := by
  subst hn
  refine run_convert_bytes_back wr 38 9 5 ⟨g, 0, none⟩ cap t Try.underlying38 Try.underlying5 Try.underlying9 fun j hj => ?_
  have h2 := h.cell j hj
  rw [Go.WideShapes.add_plain, Nat.zero_add, h2]
  simp [N.bt, List.getD_eq_getElem?_getD, hj]

theorem bt_set {t : List UInt8} {i : Nat} (h : i < t.length) (b : UInt8) (j : Nat) : N.bt (t.set i b) j = if i = j then b.toNat else N.bt t j := by
  unfold N.bt
  by_cases hj : i = j
  · subst hj
    simp [List.getD_eq_getElem?_getD, h]
  · simp [List.getD_eq_getElem?_getD, List.getElem?_set_ne hj, hj]
theorem Row.flip {w wr : World} {g i : Nat} {t : List UInt8} (h : Row w wr g t) (hi : i < t.length) (b : UInt8) :
    Row w (wr.setCell ⟨g, i, none⟩ (.int .u8 (b.toNat : Int))).drew g (t.set i b) := by
  refine ⟨fun j hj => ?_, fun j hj => ?_, h.new, (h.below.setCell (p := ⟨g, i, none⟩) h.new _).drew⟩
  · rw [List.length_set] at hj
    show (wr.setCell _ _).cell? _ = _
    rw [bt_set hi]
    by_cases hj2 : i = j
    · subst hj2
      rw [if_pos rfl]
      exact World.cell?_setCell_same _ _ _ (h.cell i hi)
    · rw [if_neg hj2, World.cell?_setCell_other _ _ _ _ (by simp)]
      exact h.cell j hj
  · rw [List.length_set] at hj
    show (wr.setCell _ _).frozen? _ = _
    rw [World.frozen?_setCell]
    exact h.loose j hj
theorem flip_val {a j : Nat} (ha : a < 256) (hj : j < 8) : bits BinOp.xor IntKind.u8 (a : Int) ((2 : Int) ^ j % 256) = ((a ^^^ 2 ^ j : Nat) : Int) ∧ a ^^^ 2 ^ j < 256 := by
  have h1 : 2 ^ j < 2 ^ 8 := Nat.pow_lt_pow_right (by omega) hj
  have h3 : (2 : Int) ^ j = ((2 ^ j : Nat) : Int) := by rw [Int.natCast_pow]; rfl
  rw [h3]
  generalize 2 ^ j = x at h1
  have h2 : (x : Int) % 256 = x := by omega
  rw [h2]
  exact ⟨u8_xor_nat a x ha (by omega), Nat.xor_lt_two_pow (n := 8) (by omega) h1⟩
theorem val_go {t l : List UInt8} {p m k q : Nat} (hq : q = p + k) (hv : C.val t = C.val l ^^^ 2 ^ p * (m % 2 ^ k)) (hb : m / 2 ^ k % 2 = 1) (hi : q / 8 < t.length) {b : UInt8} (hbt : b.toNat = N.bt t (q / 8) ^^^ 2 ^ (q % 8)) :
    C.val (t.set (q / 8) b) = C.val l ^^^ 2 ^ p * (m % 2 ^ (k + 1)) := by
  rw [C.val_set t (q / 8) (q % 8) b hi hbt, C.bits_more_one hb, C.mul_xor, hv, show 8 * (q / 8) + q % 8 = p + k by omega, Nat.pow_add, Nat.xor_assoc]

theorem bit_val {m k : Nat} (hm : m < 4294967296) : bits BinOp.and IntKind.u32 ((m : Int) / 2 ^ k) 1 = ((m / 2 ^ k % 2 : Nat) : Int) := by
  have h1 : m / 2 ^ k < 4294967296 := Nat.lt_of_le_of_lt (Nat.div_le_self _ _) hm
  have h2 := u32_and_nat (m / 2 ^ k) 1 h1 (by omega)
  rw [nat_mask1] at h2
  have h3 : ((m / 2 ^ k : Nat) : Int) = (m : Int) / 2 ^ k := by rw [Int.natCast_ediv, Int.natCast_pow]; rfl
  rw [h3] at h2
  exact h2
theorem bit_yes {m k : Nat} (hm : m < 4294967296) (h : m / 2 ^ k % 2 = 1) : (bits BinOp.and IntKind.u32 ((m : Int) / 2 ^ k) 1 == 1) = true := by
  rw [bit_val hm, h]; rfl
theorem bit_no {m k : Nat} (hm : m < 4294967296) (h : m / 2 ^ k % 2 = 0) : (bits BinOp.and IntKind.u32 ((m : Int) / 2 ^ k) 1 == 1) = false := by
  rw [bit_val hm, h]; rfl

theorem Row.after {w wr w' : World} {g : Nat} {t : List UInt8} (h : Row w wr g t) (hb : Below wr.heap.size wr w') : Row w w' g t :=
  ⟨fun j hj => by rw [hb.cell (World.block_lt_of_cell? wr _ (h.cell j hj))]; exact h.cell j hj,
   fun j hj => by
    have hlt : g < wr.heap.size := World.block_lt_of_cell? wr _ (h.cell j hj)
    rw [World.frozen?_of_block (a := ⟨g, j, none⟩) (hb.block g hlt)]; exact h.loose j hj, h.new, h.below.trans (hb.mono h.below.size)⟩
end Go.Proofs.Ytdphmoldfglhmaa
