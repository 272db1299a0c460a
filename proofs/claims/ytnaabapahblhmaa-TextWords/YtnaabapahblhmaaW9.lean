/-
  Walks of same, sameInts and shown of the statements' package.
-/
import Derived.Test.YtnaabapahblhmaaW8
import Derived.Deep.QuietTactic
import Derived.BigQuiet
namespace Go.Proofs.Ytnaabapahblhmaa
open Go.RowKit
attribute [local go_sem] ext_Bd ext_Bt toList_B

/-- A slice value that reads as a list of cells. -/
def Reads (w : World) (v : Value) (xs : List Value) : Prop :=
  ∃ a cap, v = .slice a xs.length cap ∧ ∀ i, i < xs.length → ∃ b off, a = some ⟨b, off, none⟩ ∧ w.cell? ⟨b, off + i, none⟩ = xs[i]?

theorem reads_own {w : World} {base : Nat} {e : TypeId} {v : Value} {n : Nat} {xs : List Value} (h : w.ownsRow base e 1 v n xs) : Reads w v xs := by
  have hn : xs.length = n := by have := h.1; omega
  subst hn
  rcases h.2 with ⟨rfl, h0⟩ | ⟨g, cap, cur, rfl, _⟩
  · exact ⟨none, 0, by rw [h0], fun i hi => by omega⟩
  · exact ⟨_, cap, rfl, fun i hi => ⟨g, 0, rfl, by rw [Nat.zero_add]; exact h.cellAt i (by omega)⟩⟩
theorem reads_cell {w w' : World} {v : Value} {xs : List Value} (h : Reads w v xs) (hc : ∀ p : Addr, ∀ u, w.cell? p = some u → w'.cell? p = some u) : Reads w' v xs := by
  obtain ⟨a, cap, rfl, hx⟩ := h
  refine ⟨a, cap, rfl, fun i hi => ?_⟩
  obtain ⟨b, off, rfl, he⟩ := hx i hi
  refine ⟨b, off, rfl, ?_⟩
  rw [List.getElem?_eq_getElem hi] at he ⊢
  exact hc _ _ he
theorem reads_below {w w' : World} {v : Value} {xs : List Value} (h : Reads w v xs) (hb : Below w.heap.size w w') : Reads w' v xs :=
  reads_cell h fun p u hu => by rw [hb.cell (World.block_lt_of_cell? w p hu)]; exact hu

theorem take_step {α : Type} {xs ys : List α} {k : Nat} (hx : k < xs.length) (hy : k < ys.length) (ht : xs.take k = ys.take k) (he : xs[k] = ys[k]) : xs.take (k + 1) = ys.take (k + 1) := by
  rw [List.take_succ_eq_append_getElem hx, List.take_succ_eq_append_getElem hy, ht, he]

theorem decide_ne {α : Type} [DecidableEq α] {xs ys : List α} {k : Nat} (hx : k < xs.length) (hy : k < ys.length) (he : ¬ xs[k] = ys[k]) : decide (xs = ys) = false := by
  simp; intro h; subst h; exact he rfl
theorem decide_all {α : Type} [DecidableEq α] {xs ys : List α} {k : Nat} (hk : xs.length ≤ k) (hl : xs.length = ys.length) (ht : xs.take k = ys.take k) : decide (xs = ys) = true := by
  rw [List.take_of_length_le hk, List.take_of_length_le (by omega)] at ht
  simpa using ht

def sQuiet (w wr : World) : Prop := ∃ n, wr = w.drewN n

theorem quiet_two (w : World) (a b : Nat) : sQuiet w ((w.drewN a).drewN b) := ⟨a + b, by simp [World.drewN, Nat.add_assoc]⟩

set_option maxHeartbeats 400000 in
theorem same_l (xs ys : List (List UInt8)) (va vb : Value) (w : World) (ha : Reads w va (strCells xs)) (hb : Reads w vb (strCells ys)) (hl : xs.length ≤ 1000000) :
    Calls Try.prog 24 #[va, vb] w fun e w' => e = .returned (.bool (decide (xs = ys))) ∧ sQuiet w w' := by
  obtain ⟨a, ca, rfl, hxa⟩ := ha
  obtain ⟨b, cb, rfl, hxb⟩ := hb
  simp only [strCells_len] at *
  have HXA := Lib.hid hxa; clear hxa
  have HXB := Lib.hid hxb; clear hxb
  by_cases hne : xs.length = ys.length
  · have hnb : ((xs.length : Int) != (ys.length : Int)) = false := by simp; omega
    have hnn : (xs.length != ys.length) = false := by simpa using hne
    have HNE := Lib.hid hne; clear hne
    go_enter Try.func24, Try.ntmps24
    go_wp2
    go_loopw [5] (fun i wr => ∃ k : Nat, i = .int .i64 k ∧ k ≤ xs.length ∧ xs.take k = ys.take k ∧ sQuiet w wr) (fun i _ => xs.length - (intOf i).toNat)
    case atStart => exact ⟨0, rfl, Nat.zero_le _, by simp, 0, rfl⟩
    case round =>
      obtain ⟨k, rfl, hk, ht, nq, rfl⟩ := hrel
      have HT := Lib.hid ht; clear ht
      by_cases hlt : k < xs.length
      · have hlt2 : k < ys.length := by rw [← HNE.out]; exact hlt
        obtain ⟨b1, o1, rfl, hc1⟩ := HXA.out k hlt
        obtain ⟨b2, o2, rfl, hc2⟩ := HXB.out k hlt2
        have hc1' : w.cell? ⟨b1, o1 + k, none⟩ = some (.string (B xs[k])) := by rw [hc1]; simp [strCells, hlt]
        have hc2' : w.cell? ⟨b2, o2 + k, none⟩ = some (.string (B ys[k])) := by rw [hc2]; simp [strCells, hlt2]
        clear hc1 hc2
        have hi1 : (k : Int) < (xs.length : Int) := by omega
        have hi2 : (k : Int) < (ys.length : Int) := by omega
        by_cases he : xs[k] = ys[k]
        · have heb : (xs[k] == ys[k]) = true := by simpa using he
          have HS := Lib.hid (take_step hlt hlt2 HT.out he)
          clear he
          go_wp2
          go_quiet (fail)
          go_wp2
          go_roundw
          case rel => exact ⟨k + 1, by go_num, by omega, HS.out, _, rfl⟩
          case measure => simp [intOf]; omega
        · have heb : (xs[k] == ys[k]) = false := by simpa using he
          have HS := Lib.hid (decide_ne (xs := xs) (ys := ys) hlt hlt2 he)
          clear he
          go_wp2
          go_quiet (fail)
          go_wp2
          go_ret
          rw [HS.out]
          exact ⟨rfl, quiet_two _ _ _⟩
      · have HS := Lib.hid (decide_all (xs := xs) (ys := ys) (k := k) (by omega) HNE.out HT.out)
        go_wp2
        go_ret
        rw [HS.out]
        exact ⟨rfl, _, rfl⟩
  · have hnb : ((xs.length : Int) != (ys.length : Int)) = true := by simp; omega
    have hnn : (xs.length != ys.length) = true := by simpa using hne
    have hd : decide (xs = ys) = false := by simp; intro h; exact hne (by rw [h])
    have HD := Lib.hid hd; clear hd
    have HNE := Lib.hid hne; clear hne
    go_enter Try.func24, Try.ntmps24
    go_wp2
    go_ret
    rw [HD.out]
    exact ⟨rfl, 0, rfl⟩
set_option maxHeartbeats 400000 in
theorem sameInts_l (xs ys : List Int) (va vb : Value) (w : World) (ha : Reads w va (intCells xs)) (hb : Reads w vb (intCells ys)) (hl : xs.length ≤ 1000000) :
    Calls Try.prog 12 #[va, vb] w fun e w' => e = .returned (.bool (decide (xs = ys))) ∧ sQuiet w w' := by
  obtain ⟨a, ca, rfl, hxa⟩ := ha
  obtain ⟨b, cb, rfl, hxb⟩ := hb
  simp only [intCells_len] at *
  have HXA := Lib.hid hxa; clear hxa
  have HXB := Lib.hid hxb; clear hxb
  by_cases hne : xs.length = ys.length
  · have hnb : ((xs.length : Int) != (ys.length : Int)) = false := by simp; omega
    have hnn : (xs.length != ys.length) = false := by simpa using hne
    have HNE := Lib.hid hne; clear hne
    go_enter Try.func12, Try.ntmps12
    go_wp2
    go_loopw [5] (fun i wr => ∃ k : Nat, i = .int .i64 k ∧ k ≤ xs.length ∧ xs.take k = ys.take k ∧ sQuiet w wr) (fun i _ => xs.length - (intOf i).toNat)
    case atStart => exact ⟨0, rfl, Nat.zero_le _, by simp, 0, rfl⟩
    case round =>
      obtain ⟨k, rfl, hk, ht, nq, rfl⟩ := hrel
      have HT := Lib.hid ht; clear ht
      by_cases hlt : k < xs.length
      · have hlt2 : k < ys.length := by rw [← HNE.out]; exact hlt
        obtain ⟨b1, o1, rfl, hc1⟩ := HXA.out k hlt
        obtain ⟨b2, o2, rfl, hc2⟩ := HXB.out k hlt2
        have hc1' : w.cell? ⟨b1, o1 + k, none⟩ = some (.int .i64 xs[k]) := by rw [hc1]; simp [intCells, hlt]
        have hc2' : w.cell? ⟨b2, o2 + k, none⟩ = some (.int .i64 ys[k]) := by rw [hc2]; simp [intCells, hlt2]
        clear hc1 hc2
        have hi1 : (k : Int) < (xs.length : Int) := by omega
        have hi2 : (k : Int) < (ys.length : Int) := by omega
        by_cases he : xs[k] = ys[k]
        · have heb : (xs[k] == ys[k]) = true := by simpa using he
          have HS := Lib.hid (take_step hlt hlt2 HT.out he)
          clear he
          go_wp2
          go_quiet (fail)
          go_wp2
          go_roundw
          case rel => exact ⟨k + 1, by go_num, by omega, HS.out, _, rfl⟩
          case measure => simp [intOf]; omega
        · have heb : (xs[k] == ys[k]) = false := by simpa using he
          have HS := Lib.hid (decide_ne (xs := xs) (ys := ys) hlt hlt2 he)
          clear he
          go_wp2
          go_quiet (fail)
          go_wp2
          go_ret
          rw [HS.out]
          exact ⟨rfl, quiet_two _ _ _⟩
      · have HS := Lib.hid (decide_all (xs := xs) (ys := ys) (k := k) (by omega) HNE.out HT.out)
        go_wp2
        go_ret
        rw [HS.out]
        exact ⟨rfl, _, rfl⟩
  · have hnb : ((xs.length : Int) != (ys.length : Int)) = true := by simp; omega
    have hnn : (xs.length != ys.length) = true := by simpa using hne
    have hd : decide (xs = ys) = false := by simp; intro h; exact hne (by rw [h])
    have HD := Lib.hid hd; clear hd
    have HNE := Lib.hid hne; clear hne
    go_enter Try.func12, Try.ntmps12
    go_wp2
    go_ret
    rw [HD.out]
    exact ⟨rfl, 0, rfl⟩

theorem below_quiet {B : Nat} {w w1 w2 : World} (h : Below B w w1) (hq : sQuiet w1 w2) : Below B w w2 := by
  obtain ⟨n, rfl⟩ := hq
  exact below_drewN h n

theorem shown_words : wordsL [97, 32, 34, 98, 32, 99, 34, 32, 32, 100] = some [[97], [98, 32, 99], [100]] := by decide +kernel
theorem shown_wrong : wordsL [97, 34, 98] = none := by decide +kernel
theorem shown_quote : T.quoteL [97, 34, 92, 10, 255] = [34, 97, 92, 34, 92, 92, 92, 110, 92, 120, 102, 102, 34] := by decide +kernel

set_option maxHeartbeats 400000 in
theorem shown_any (w : World) : Calls Try.prog 11 #[] w fun e w' => e = .returned (.bool true) ∧ Below w.heap.size w w' := by
  go_enter Try.func11, Try.ntmps11
  go_wp2_with fail
  refine (Words_l [97, 32, 34, 98, 32, 99, 34, 32, 32, 100] w (by decide)).mono ?_
  rintro e w1 ⟨v, rfl, ho1, hb1⟩
  rw [shown_words] at ho1 ⊢
  go_wp2_with fail
  refine (Words_l [97, 34, 98] w1 (by decide)).mono ?_
  rintro e w2 ⟨v2, rfl, _, hb2⟩
  rw [shown_wrong]
  have ho2 := own_below ho1 hb2
  have hbb2 := hb1.trans (hb2.mono hb1.size)
  clear ho1 hb1 hb2
  go_wp2_with fail
  refine (Quote_l [97, 34, 92, 10, 255] w2 (by decide)).mono ?_
  rintro e w3 ⟨rfl, hb3⟩
  rw [shown_quote]
  have ho3 := own_below ho2 hb3
  have hbb3 := hbb2.trans (hb3.mono hbb2.size)
  clear ho2 hbb2 hb3
  go_wp2_with fail
  have ho4 := World.ownsRow_lit (base := w3.heap.size) (e := 9) (size := 1) w3 #[.string (B [97]), .string (B [98, 32, 99]), .string (B [100])] 3 (Nat.le_refl _) (by decide) rfl
  have r1 : Reads (w3.alloc (.cells #[.string (B [97]), .string (B [98, 32, 99]), .string (B [100])] 9)) v (strCells [[97], [98, 32, 99], [100]]) := reads_own (ho3.alloc _)
  have r2 : Reads (w3.alloc (.cells #[.string (B [97]), .string (B [98, 32, 99]), .string (B [100])] 9)) (.slice (some ⟨w3.heap.size, 0, none⟩) 3 3) (strCells [[97], [98, 32, 99], [100]]) := reads_own ho4
  refine (same_l [[97], [98, 32, 99], [100]] [[97], [98, 32, 99], [100]] v _ _ r1 r2 (by decide)).mono ?_
  rintro e w4 ⟨rfl, hq⟩
  have hbb4 := below_quiet (hbb3.alloc hbb3.size _) hq
  clear ho3 ho4 r1 r2 hbb3 hq
  rw [decide_eq_true (rfl : ([[97], [98, 32, 99], [100]] : List (List UInt8)) = [[97], [98, 32, 99], [100]])]
  go_wp2
  go_ret
  exact ⟨rfl, hbb4⟩
end Go.Proofs.Ytnaabapahblhmaa
