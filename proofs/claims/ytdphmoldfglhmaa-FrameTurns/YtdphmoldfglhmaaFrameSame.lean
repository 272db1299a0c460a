/-
  Walks of same and small of the statements' package.
-/
import Derived.Test.YtdphmoldfglhmaaBase
namespace Go.Proofs.Ytdphmoldfglhmaa
open Go.RowKit
attribute [local go_sem] ext_Bd ext_Bl ext_Bt toList_B add_B size_B get_Bt

theorem take_step {α : Type} {xs ys : List α} {k : Nat} (hx : k < xs.length) (hy : k < ys.length) (ht : xs.take k = ys.take k) (he : xs[k] = ys[k]) : xs.take (k + 1) = ys.take (k + 1) := by
  rw [List.take_succ_eq_append_getElem hx, List.take_succ_eq_append_getElem hy, ht, he]

theorem decide_ne {α : Type} [DecidableEq α] {xs ys : List α} {k : Nat} (hx : k < xs.length) (hy : k < ys.length) (he : ¬ xs[k] = ys[k]) : decide (xs = ys) = false := by
  simp; intro h; subst h; exact he rfl
theorem decide_all {α : Type} [DecidableEq α] {xs ys : List α} {k : Nat} (hk : xs.length ≤ k) (hl : xs.length = ys.length) (ht : xs.take k = ys.take k) : decide (xs = ys) = true := by
  rw [List.take_of_length_le hk, List.take_of_length_le (by omega)] at ht
  simpa using ht

theorem quiet_two (w : World) (a b : Nat) : sQuiet w ((w.drewN a).drewN b) := ⟨a + b, by simp [World.drewN, Nat.add_assoc]⟩

set_option maxHeartbeats 400000 in
theorem same_l (xs ys : List (List UInt8)) (va vb : Value) (w : World) (ha : Reads w va (strCells xs)) (hb : Reads w vb (strCells ys)) (hl : xs.length ≤ 1000000) :
    Calls Try.prog 19 #[va, vb] w fun e w' => e = .returned (.bool (decide (xs = ys))) ∧ sQuiet w w' := by
  obtain ⟨a, ca, rfl, hxa⟩ := ha
  obtain ⟨b, cb, rfl, hxb⟩ := hb
  simp only [strCells_len] at *
  have HXA := Lib.hid hxa; clear hxa
  have HXB := Lib.hid hxb; clear hxb
  by_cases hne : xs.length = ys.length
  · have hnb : ((xs.length : Int) != (ys.length : Int)) = false := by simp; omega
    have hnn : (xs.length != ys.length) = false := by simpa using hne
    have HNE := Lib.hid hne; clear hne
    go_enter Try.func19, Try.ntmps19
    go_wp2
    go_loopw [5] (fun i wr => ∃ k : Nat, i = .int .i64 k ∧ k ≤ xs.length ∧ xs.take k = ys.take k ∧ sQuiet w wr) (fun i _ => xs.length - (intOf i).toNat)
    case atStart => exact ⟨0, rfl, Nat.zero_le _, by simp, 0, rfl⟩
    case round =>
      obtain ⟨k, rfl, hk, ht, nq, rfl⟩ := hrel
      have HT := Lib.hid ht; clear ht
      by_cases hlt : k < xs.length
      · have hlt2 : k < ys.length := by rw [← HNE.out]; exact hlt
        obtain ⟨b1, o1, rfl, hc1⟩ := HXA.out k hlt
        obtain ⟨b2, o2, rfl, hc2⟩ := HXB.out k hlt2
        have hc1' : w.cell? ⟨b1, o1 + k, none⟩ = some (.string (B xs[k])) := by rw [hc1]; simp [strCells, hlt]
        have hc2' : w.cell? ⟨b2, o2 + k, none⟩ = some (.string (B ys[k])) := by rw [hc2]; simp [strCells, hlt2]
        clear hc1 hc2
        have hi1 : (k : Int) < (xs.length : Int) := by omega
        have hi2 : (k : Int) < (ys.length : Int) := by omega
        by_cases he : xs[k] = ys[k]
        · have heb : (xs[k] == ys[k]) = true := by simpa using he
          have HS := Lib.hid (take_step hlt hlt2 HT.out he)
          clear he
          go_wp2
          go_quiet (fail)
          go_wp2
          go_roundw
          case rel => exact ⟨k + 1, by go_num, by omega, HS.out, _, rfl⟩
          case measure => simp [intOf]; omega
        · have heb : (xs[k] == ys[k]) = false := by simpa using he
          have HS := Lib.hid (decide_ne (xs := xs) (ys := ys) hlt hlt2 he)
          clear he
          go_wp2
          go_quiet (fail)
          go_wp2
          go_ret
          rw [HS.out]
          exact ⟨rfl, quiet_two _ _ _⟩
      · have HS := Lib.hid (decide_all (xs := xs) (ys := ys) (k := k) (by omega) HNE.out HT.out)
        go_wp2
        go_ret
        rw [HS.out]
        exact ⟨rfl, _, rfl⟩
  · have hnb : ((xs.length : Int) != (ys.length : Int)) = true := by simp; omega
    have hnn : (xs.length != ys.length) = true := by simpa using hne
    have hd : decide (xs = ys) = false := by simp; intro h; exact hne (by rw [h])
    have HD := Lib.hid hd; clear hd
    have HNE := Lib.hid hne; clear hne
    go_enter Try.func19, Try.ntmps19
    go_wp2
    go_ret
    rw [HD.out]
    exact ⟨rfl, 0, rfl⟩

set_option maxHeartbeats 1000000 in
set_option maxRecDepth 100000 in
theorem small_l (ws : List (List UInt8)) (va : Value) (w : World) (ha : Reads w va (strCells ws)) :
    Calls Try.prog 10 #[va] w fun e w' => (e = .returned (.bool false) ∨ (e = .returned (.bool true) ∧ ws.length ≤ 30)) ∧ sQuiet w w' := by
  obtain ⟨a, ca, rfl, hxa⟩ := ha
  simp only [strCells_len] at *
  have HXA := Lib.hid hxa; clear hxa
  by_cases h30 : 30 < ws.length
  · go_enter Try.func10, Try.ntmps10
    go_wp2
    go_ret
    exact ⟨.inl rfl, 0, rfl⟩
  go_enter Try.func10, Try.ntmps10
  go_wp2
  go_loopw [3] (fun i wr => ∃ k : Nat, i = .int .i64 k ∧ k ≤ ws.length ∧ sQuiet w wr) (fun i _ => ws.length - (intOf i).toNat)
  case atStart => exact ⟨0, rfl, Nat.zero_le _, 0, rfl⟩
  case round =>
    obtain ⟨k, rfl, hk, nq, rfl⟩ := hrel
    by_cases hlt : k < ws.length
    · obtain ⟨b1, o1, rfl, hc1⟩ := HXA.out k hlt
      have hcell : w.cell? ⟨b1, o1 + k, none⟩ = some (.string (B ws[k])) := by rw [hc1]; simp [strCells, hlt]
      have hi1 : (k : Int) < (ws.length : Int) := by omega
      clear hc1
      generalize ws[k] = x at *
      rcases (by omega : 8500 < x.length ∨ (x.length ≤ 8500 ∧ k ≤ 3) ∨ (x.length ≤ 8500 ∧ 3 < k ∧ 300 < x.length) ∨ (x.length ≤ 8500 ∧ 3 < k ∧ x.length ≤ 300)) with h1 | ⟨h1, h2⟩ | ⟨h1, h2, h3⟩ | ⟨h1, h2, h3⟩
      · have hx1 : (8500 : Int) < x.length := by omega
        go_wp2
        go_ret
        exact ⟨.inl rfl, _, rfl⟩
      · have hx1 : ¬ (8500 : Int) < x.length := by omega
        have hx2 : ¬ (3 : Int) < k := by omega
        go_wp2
        go_roundw
        case rel => exact ⟨k + 1, by go_num, by omega, _, rfl⟩
        case measure => simp [intOf]; omega
      · have hx1 : ¬ (8500 : Int) < x.length := by omega
        have hx2 : (3 : Int) < k := by omega
        have hx3 : (300 : Int) < x.length := by omega
        go_wp2
        go_ret
        exact ⟨.inl rfl, _, rfl⟩
      · have hx1 : ¬ (8500 : Int) < x.length := by omega
        have hx2 : (3 : Int) < k := by omega
        have hx3 : ¬ (300 : Int) < x.length := by omega
        go_wp2
        go_roundw
        case rel => exact ⟨k + 1, by go_num, by omega, _, rfl⟩
        case measure => simp [intOf]; omega
    · go_wp2
      go_ret
      exact ⟨.inr ⟨rfl, by omega⟩, _, rfl⟩
end Go.Proofs.Ytdphmoldfglhmaa
