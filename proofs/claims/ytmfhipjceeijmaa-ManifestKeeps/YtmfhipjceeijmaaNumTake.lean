/-
  Walks of what package num takes: Take, TakeInt, TakeText, TakeFixed.
-/
import Derived.Test.YtmfhipjceeijmaaNumPut
namespace Go.Proofs.Ytmfhipjceeijmaa
open Go.RowKit
attribute [local go_sem] ext_Bd ext_Bl ext_Bt toList_B add_B size_B get_Bt

def tkRes (o : N.Tk) : Value :=
  match o with
  | Sum.inl (n, r) => .tuple #[.int .i64 n, .string (B r), .int .i64 0]
  | Sum.inr e => .tuple #[.int .i64 0, .string (B []), .int .i64 e]
theorem tkRes_ok (n : Nat) (r : List UInt8) : tkRes (.ok n r) = .tuple #[.int .i64 n, .string (B r), .int .i64 0] := rfl
theorem tkRes_bad (e : Nat) : tkRes (.bad e) = .tuple #[.int .i64 0, .string (B []), .int .i64 e] := rfl

structure TkAt (l : List UInt8) (k n : Nat) : Prop where
  cut : N.takeL l = N.takeG (6 - k) n (l.drop k)
  lt : n < 128 ^ k
  le : k ≤ 6
  le2 : k ≤ l.length
theorem TkAt.start (l : List UInt8) : TkAt l 0 0 := ⟨rfl, by decide, by omega, by omega⟩
theorem TkAt.more {l : List UInt8} {k n : Nat} (h : TkAt l k n) (h6 : k < 6) (hl : k < l.length) (hb : 128 ≤ N.bt l k) : TkAt l (k + 1) (n + N.bt l k % 128 * 128 ^ k) := by
  obtain ⟨c, hd, hc⟩ := N.drop_cons hl
  have h1 := h.lt
  have h2 : N.bt l k % 128 * 128 ^ k ≤ 127 * 128 ^ k := Nat.mul_le_mul_right _ (by omega)
  refine ⟨?_, by rw [Nat.pow_succ]; omega, by omega, by omega⟩
  rw [h.cut, show 6 - k = (5 - k) + 1 by omega, hd, N.takeG_more (by omega), hc, show 5 - (5 - k) = k by omega, show 6 - (k + 1) = 5 - k by omega]
theorem TkAt.zero {l : List UInt8} {k n : Nat} (h : TkAt l k n) (h6 : k < 6) (hl : k < l.length) (hb : N.bt l k = 0) (hk : 0 < k) : N.takeL l = .bad 2 := by
  obtain ⟨c, hd, hc⟩ := N.drop_cons hl
  rw [h.cut, show 6 - k = (5 - k) + 1 by omega, hd, N.takeG_zero (by omega) (by omega)]
theorem TkAt.long {l : List UInt8} {k n : Nat} (h : TkAt l k n) (h6 : k < 6) (hl : k < l.length) (hb : N.bt l k < 128) (hz : ¬ (N.bt l k = 0 ∧ 0 < k)) (hn : 1099511627776 < n + N.bt l k % 128 * 128 ^ k) : N.takeL l = .bad 4 := by
  obtain ⟨c, hd, hc⟩ := N.drop_cons hl
  have e : N.bt l k % 128 = N.bt l k := by omega
  rw [e] at hn
  rw [h.cut, show 6 - k = (5 - k) + 1 by omega, hd, N.takeG_long (by omega) (by omega) (by rw [hc, show 5 - (5 - k) = k by omega]; exact hn)]
theorem TkAt.ok {l : List UInt8} {k n : Nat} (h : TkAt l k n) (h6 : k < 6) (hl : k < l.length) (hb : N.bt l k < 128) (hz : ¬ (N.bt l k = 0 ∧ 0 < k)) (hn : ¬ 1099511627776 < n + N.bt l k % 128 * 128 ^ k) : N.takeL l = .ok (n + N.bt l k % 128 * 128 ^ k) (l.drop (k + 1)) := by
  obtain ⟨c, hd, hc⟩ := N.drop_cons hl
  have e : N.bt l k % 128 = N.bt l k := by omega
  rw [e] at hn ⊢
  rw [h.cut, show 6 - k = (5 - k) + 1 by omega, hd, N.takeG_ok (by omega) (by omega) (by rw [hc, show 5 - (5 - k) = k by omega]; exact hn), hc, show 5 - (5 - k) = k by omega]
theorem TkAt.over {l : List UInt8} {k n : Nat} (h : TkAt l k n) (hl : ¬ k < l.length) : N.takeL l = .bad 3 := by
  rw [h.cut, List.drop_of_length_le (by omega), N.takeG_nil]
theorem TkAt.out {l : List UInt8} {k n : Nat} (h : TkAt l k n) (h6 : ¬ k < 6) (hl : k < l.length) : N.takeL l = .bad 2 := by
  obtain ⟨c, hd, hc⟩ := N.drop_cons hl
  have := h.le
  rw [h.cut, show 6 - k = 0 by omega, hd, N.takeG_out]

theorem within_six (n : Nat) (w : World) : Calls Try.prog 51 #[.int .i64 n, .int .i64 0, .int .i64 6] w fun e w' => e = .returned (.int .i64 ((min n 6 : Nat) : Int)) ∧ w = w' :=
  (within_any n 0 6 w).mono fun e w' ⟨a, b⟩ => ⟨by rw [a]; exact ret_int (by omega), b⟩

set_option maxHeartbeats 4000000 in
set_option maxRecDepth 100000 in
theorem Take_l (l : List UInt8) (w : World) (hs : l.length ≤ 100000000) :
    Calls Try.prog 60 #[.string (B l)] w fun e w' => e = .returned (tkRes (N.takeL l)) ∧ sQuiet w w' := by
  obtain ⟨M, hM⟩ : ∃ M, M = min l.length 6 := ⟨_, rfl⟩
  have hM1 : M ≤ l.length := by omega
  have hM2 : M ≤ 6 := by omega
  have HM := Lib.hid hM; clear hM
  go_enter Try.func60, Try.ntmps60
  go_wp2_with fail
  refine (within_six l.length w).mono ?_
  rintro e w' ⟨rfl, rfl⟩
  rw [← HM.out]
  go_wp2
  go_loop [5, 10] (fun a i => ∃ k n : Nat, a = .int .i64 n ∧ i = .int .i64 k ∧ k ≤ M ∧ TkAt l k n) (fun _ i => M - (intOf i).toNat)
  case atStart => exact ⟨0, 0, rfl, rfl, by omega, TkAt.start l⟩
  case round =>
    obtain ⟨k, n, rfl, rfl, hk, hg⟩ := hrel
    have hlt := hg.lt
    have HG := Lib.hid hg; clear hg
    by_cases hkM : k < M
    · have hb := N.bt_lt l k
      have hkl : k < l.length := by omega
      have hkb : k < (B l).size := by rw [size_B]; exact hkl
      rcases (by omega : k = 0 ∨ k = 1 ∨ k = 2 ∨ k = 3 ∨ k = 4 ∨ k = 5) with rfl | rfl | rfl | rfl | rfl | rfl
      · have hn : n < 1 := hlt
        clear hlt
        by_cases hc : 128 ≤ N.bt l 0
        · have R : Hid (TkAt l 1 (n + N.bt l 0 % 128 * 1)) := Lib.hid (HG.out.more (by omega) hkl hc)
          go_wp2
          go_round
          case rel => exact ⟨1, n + N.bt l 0 % 128 * 1, by go_num, rfl, by omega, R.out⟩
          case measure => simp [intOf]; omega
        · have hc2 : N.bt l 0 < 128 := by omega
          by_cases hz : N.bt l 0 = 0
          · have hzb : ((N.bt l 0 : Int) == 0) = true := by simp; omega
            have R : Hid (N.takeL l = .ok (n + N.bt l 0 % 128 * 1) (l.drop 1)) := Lib.hid (HG.out.ok (by omega) hkl hc2 (by omega) (by omega))
            clear hz hc
            go_wp2
            go_quiet (fail)
            go_wp2
            go_ret3
            rw [R.out, tkRes_ok]
            exact ⟨by simp, _, rfl⟩
          · have hzb : ((N.bt l 0 : Int) == 0) = false := by simp; omega
            have R : Hid (N.takeL l = .ok (n + N.bt l 0 % 128 * 1) (l.drop 1)) := Lib.hid (HG.out.ok (by omega) hkl hc2 (by omega) (by omega))
            clear hz hc
            go_wp2
            go_quiet (fail)
            go_wp2
            go_ret3
            rw [R.out, tkRes_ok]
            exact ⟨by simp, _, rfl⟩
      · have hn : n < 128 := hlt
        clear hlt
        by_cases hc : 128 ≤ N.bt l 1
        · have R : Hid (TkAt l 2 (n + N.bt l 1 % 128 * 128)) := Lib.hid (HG.out.more (by omega) hkl hc)
          go_wp2
          go_round
          case rel => exact ⟨2, n + N.bt l 1 % 128 * 128, by go_num, rfl, by omega, R.out⟩
          case measure => simp [intOf]; omega
        · have hc2 : N.bt l 1 < 128 := by omega
          by_cases hz : N.bt l 1 = 0
          · have hzb : ((N.bt l 1 : Int) == 0) = true := by simp; omega
            have R := Lib.hid (HG.out.zero (by omega) hkl hz (by omega))
            clear hz hc
            go_wp2
            go_ret3
            rw [R.out, tkRes_bad]
            exact ⟨rfl, 0, rfl⟩
          · have hzb : ((N.bt l 1 : Int) == 0) = false := by simp; omega
            have R : Hid (N.takeL l = .ok (n + N.bt l 1 % 128 * 128) (l.drop 2)) := Lib.hid (HG.out.ok (by omega) hkl hc2 (by omega) (by omega))
            clear hz hc
            go_wp2
            go_quiet (fail)
            go_wp2
            go_ret3
            rw [R.out, tkRes_ok]
            exact ⟨by simp, _, rfl⟩
      · have hn : n < 16384 := hlt
        clear hlt
        by_cases hc : 128 ≤ N.bt l 2
        · have R : Hid (TkAt l 3 (n + N.bt l 2 % 128 * 16384)) := Lib.hid (HG.out.more (by omega) hkl hc)
          go_wp2
          go_round
          case rel => exact ⟨3, n + N.bt l 2 % 128 * 16384, by go_num, rfl, by omega, R.out⟩
          case measure => simp [intOf]; omega
        · have hc2 : N.bt l 2 < 128 := by omega
          by_cases hz : N.bt l 2 = 0
          · have hzb : ((N.bt l 2 : Int) == 0) = true := by simp; omega
            have R := Lib.hid (HG.out.zero (by omega) hkl hz (by omega))
            clear hz hc
            go_wp2
            go_ret3
            rw [R.out, tkRes_bad]
            exact ⟨rfl, 0, rfl⟩
          · have hzb : ((N.bt l 2 : Int) == 0) = false := by simp; omega
            have R : Hid (N.takeL l = .ok (n + N.bt l 2 % 128 * 16384) (l.drop 3)) := Lib.hid (HG.out.ok (by omega) hkl hc2 (by omega) (by omega))
            clear hz hc
            go_wp2
            go_quiet (fail)
            go_wp2
            go_ret3
            rw [R.out, tkRes_ok]
            exact ⟨by simp, _, rfl⟩
      · have hn : n < 2097152 := hlt
        clear hlt
        by_cases hc : 128 ≤ N.bt l 3
        · have R : Hid (TkAt l 4 (n + N.bt l 3 % 128 * 2097152)) := Lib.hid (HG.out.more (by omega) hkl hc)
          go_wp2
          go_round
          case rel => exact ⟨4, n + N.bt l 3 % 128 * 2097152, by go_num, rfl, by omega, R.out⟩
          case measure => simp [intOf]; omega
        · have hc2 : N.bt l 3 < 128 := by omega
          by_cases hz : N.bt l 3 = 0
          · have hzb : ((N.bt l 3 : Int) == 0) = true := by simp; omega
            have R := Lib.hid (HG.out.zero (by omega) hkl hz (by omega))
            clear hz hc
            go_wp2
            go_ret3
            rw [R.out, tkRes_bad]
            exact ⟨rfl, 0, rfl⟩
          · have hzb : ((N.bt l 3 : Int) == 0) = false := by simp; omega
            have R : Hid (N.takeL l = .ok (n + N.bt l 3 % 128 * 2097152) (l.drop 4)) := Lib.hid (HG.out.ok (by omega) hkl hc2 (by omega) (by omega))
            clear hz hc
            go_wp2
            go_quiet (fail)
            go_wp2
            go_ret3
            rw [R.out, tkRes_ok]
            exact ⟨by simp, _, rfl⟩
      · have hn : n < 268435456 := hlt
        clear hlt
        by_cases hc : 128 ≤ N.bt l 4
        · have R : Hid (TkAt l 5 (n + N.bt l 4 % 128 * 268435456)) := Lib.hid (HG.out.more (by omega) hkl hc)
          go_wp2
          go_round
          case rel => exact ⟨5, n + N.bt l 4 % 128 * 268435456, by go_num, rfl, by omega, R.out⟩
          case measure => simp [intOf]; omega
        · have hc2 : N.bt l 4 < 128 := by omega
          by_cases hz : N.bt l 4 = 0
          · have hzb : ((N.bt l 4 : Int) == 0) = true := by simp; omega
            have R := Lib.hid (HG.out.zero (by omega) hkl hz (by omega))
            clear hz hc
            go_wp2
            go_ret3
            rw [R.out, tkRes_bad]
            exact ⟨rfl, 0, rfl⟩
          · have hzb : ((N.bt l 4 : Int) == 0) = false := by simp; omega
            have R : Hid (N.takeL l = .ok (n + N.bt l 4 % 128 * 268435456) (l.drop 5)) := Lib.hid (HG.out.ok (by omega) hkl hc2 (by omega) (by omega))
            clear hz hc
            go_wp2
            go_quiet (fail)
            go_wp2
            go_ret3
            rw [R.out, tkRes_ok]
            exact ⟨by simp, _, rfl⟩
      · have hn : n < 34359738368 := hlt
        clear hlt
        by_cases hc : 128 ≤ N.bt l 5
        · have R : Hid (TkAt l 6 (n + N.bt l 5 % 128 * 34359738368)) := Lib.hid (HG.out.more (by omega) hkl hc)
          go_wp2
          go_round
          case rel => exact ⟨6, n + N.bt l 5 % 128 * 34359738368, by go_num, rfl, by omega, R.out⟩
          case measure => simp [intOf]; omega
        · have hc2 : N.bt l 5 < 128 := by omega
          by_cases hz : N.bt l 5 = 0
          · have hzb : ((N.bt l 5 : Int) == 0) = true := by simp; omega
            have R := Lib.hid (HG.out.zero (by omega) hkl hz (by omega))
            clear hz hc
            go_wp2
            go_ret3
            rw [R.out, tkRes_bad]
            exact ⟨rfl, 0, rfl⟩
          · have hzb : ((N.bt l 5 : Int) == 0) = false := by simp; omega
            by_cases hg : 1099511627776 < n + N.bt l 5 % 128 * 34359738368
            · have R := Lib.hid (HG.out.long (by omega) hkl hc2 (by omega) hg)
              clear hz hc
              go_wp2
              go_ret3
              rw [R.out, tkRes_bad]
              exact ⟨rfl, 0, rfl⟩
            · have R : Hid (N.takeL l = .ok (n + N.bt l 5 % 128 * 34359738368) (l.drop 6)) := Lib.hid (HG.out.ok (by omega) hkl hc2 (by omega) hg)
              clear hz hc
              go_wp2
              go_quiet (fail)
              go_wp2
              go_ret3
              rw [R.out, tkRes_ok]
              exact ⟨by simp, _, rfl⟩
    · by_cases hl6 : 6 < l.length
      · have R := Lib.hid (HG.out.out (by have := HM.out; omega) (by have := HM.out; omega))
        go_wp2
        go_ret3
        rw [R.out, tkRes_bad]
        exact ⟨rfl, 0, rfl⟩
      · have R := Lib.hid (HG.out.over (by have := HM.out; omega))
        go_wp2
        go_ret3
        rw [R.out, tkRes_bad]
        exact ⟨rfl, 0, rfl⟩
end Go.Proofs.Ytmfhipjceeijmaa
