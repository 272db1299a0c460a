/-
  Walks of the document's answer: the epoch of a place, and Fork; and of sameMarks of the statements' package.
-/
import Derived.Test.YtfhopgficckjkaaRecordArgs
import Derived.Test.YtfhopgficckjkaaRecordMore
namespace Go.Proofs.Ytfhopgficckjkaa
open Go.RowKit
attribute [local go_sem] ext_Bd ext_Bl ext_Bt toList_B add_B size_B get_Bt

theorem epoch_step {ms : List R.Mk} {k : Nat} (h : k < ms.length) (p : Int) : R.epochAt (ms.take (k + 1)) p = if ms[k].2 ≤ p then ms[k].1 else R.epochAt (ms.take k) p := by
  rw [List.take_succ_eq_append_getElem h, R.epochAt_snoc]

set_option maxHeartbeats 1000000 in
set_option maxRecDepth 100000 in
theorem refEpoch_l (ms : List R.Mk) (v : Value) (p : Int) (w : World) (hv : ReadsM w v ms) (hl : ms.length ≤ 1000000) :
    Calls Try.prog 46 #[v, .int .i64 p] w fun r w' => r = .returned (.int .i64 (R.epochAt ms p)) ∧ w' = w := by
  obtain ⟨a, cap, rfl, _, _, hx⟩ := hv
  have HX := Lib.hid hx; clear hx
  obtain ⟨r, HR⟩ : ∃ r, Hid (R.epochAt ms p = r) := ⟨_, Lib.hid rfl⟩
  rw [HR.out]
  go_enter Try.func46, Try.ntmps46
  go_wp2
  go_loop [5, 6] (fun n i => ∃ k : Nat, ∃ z : Int, i = .int .i64 k ∧ n = .int .i64 z ∧ k ≤ ms.length ∧ z = R.epochAt (ms.take k) p) (fun _ i => ms.length - (intOf i).toNat)
  case atStart => exact ⟨0, 0, rfl, rfl, Nat.zero_le _, rfl⟩
  case round =>
    obtain ⟨k, z, rfl, rfl, hk, hz⟩ := hrel
    have HZ := Lib.hid hz; clear hz
    by_cases hlt : k < ms.length
    · obtain ⟨b1, o1, rfl, x0, x1⟩ := HX.out k hlt
      have hi1 : (k : Int) < (ms.length : Int) := by omega
      have HS := Lib.hid (epoch_step hlt p)
      generalize ms[k] = m at *
      by_cases hp : m.2 ≤ p
      · have HN := Lib.hid (show m.1 = R.epochAt (ms.take (k + 1)) p by rw [HS.out, if_pos hp])
        go_wp2
        go_round
        case rel => exact ⟨k + 1, m.1, by go_num, rfl, by omega, HN.out⟩
        case measure => simp [intOf]; omega
      · have HN := Lib.hid (show z = R.epochAt (ms.take (k + 1)) p by rw [HS.out, if_neg hp, HZ.out])
        go_wp2
        go_round
        case rel => exact ⟨k + 1, z, by go_num, rfl, by omega, HN.out⟩
        case measure => simp [intOf]; omega
    · have HE := Lib.hid (show z = r by rw [HZ.out, ← HR.out, List.take_of_length_le (by omega)])
      go_wp2
      go_ret
      rw [HE.out]
      exact ⟨rfl, rfl⟩
theorem refEpoch_at (ms : List R.Mk) (v : Value) (p r : Int) (w : World) (hv : ReadsM w v ms) (hl : ms.length ≤ 1000000) (H : Hid (R.epochAt ms p = r)) :
    Calls Try.prog 46 #[v, .int .i64 p] w fun x w' => x = .returned (.int .i64 r) ∧ w' = w := by
  rw [← H.out]; exact refEpoch_l ms v p w hv hl

theorem forkF_go {a b : List R.Mk} {n p : Nat} (h : p < n) (hg : R.agree a b ((p : Int) + 1) = true) : R.forkF a b (n - p) p = R.forkF a b (n - (p + 1)) (p + 1) := by
  rw [show n - p = n - (p + 1) + 1 by omega, R.forkF, if_pos hg]
theorem forkF_stop {a b : List R.Mk} {n p : Nat} (h : p < n) (hg : R.agree a b ((p : Int) + 1) = false) : R.forkF a b (n - p) p = p := by
  rw [show n - p = n - (p + 1) + 1 by omega, R.forkF, if_neg (by rw [hg]; decide)]
theorem forkF_end {a b : List R.Mk} {n p : Nat} (h : ¬ p < n) : R.forkF a b (n - p) p = p := by
  rw [show n - p = 0 by omega, R.forkF]

set_option maxHeartbeats 2000000 in
set_option maxRecDepth 100000 in
theorem refFork_l (a b : List R.Mk) (va vb : Value) (la lb : Int) (w : World) (ha : ReadsM w va a) (hb : ReadsM w vb b) (hl : a.length ≤ 1000000) (hl2 : b.length ≤ 1000000) (h1 : la ≤ 1000000) (h2 : lb ≤ 1000000) :
    Calls Try.prog 26 #[va, .int .i64 la, vb, .int .i64 lb] w fun r w' => r = .returned (.int .i64 (R.fork a la b lb : Nat)) ∧ w' = w := by
  have HA := Lib.hid ha
  have HB := Lib.hid hb
  clear ha hb
  obtain ⟨r, HR⟩ : ∃ r, Hid (R.fork a la b lb = r) := ⟨_, Lib.hid rfl⟩
  rw [HR.out]
  have HF : Hid (R.fork a la b lb = R.forkF a b (min la lb).toNat 0) := Lib.hid rfl
  go_enter Try.func26, Try.ntmps26
  go_wp2
  go_loop [9] (fun i => ∃ p : Nat, i = .int .i64 p ∧ p ≤ (min la lb).toNat ∧ R.forkF a b ((min la lb).toNat - p) p = r) (fun i => (min la lb).toNat - (intOf i).toNat)
  case atStart => exact ⟨0, rfl, Nat.zero_le _, by rw [Nat.sub_zero, ← HF.out, HR.out]⟩
  case round =>
    obtain ⟨p, rfl, hp, hf⟩ := hrel
    have HFF := Lib.hid hf; clear hf
    by_cases hpa : (p : Int) < la
    · by_cases hpb : (p : Int) < lb
      · have hpn : p < (min la lb).toNat := by omega
        have hp1 : (p : Int) + 1 ≤ 1000000 := by omega
        obtain ⟨ea, HEA⟩ : ∃ x, Hid (R.epochAt a ((p : Int) + 1) = x) := ⟨_, Lib.hid rfl⟩
        obtain ⟨eb, HEB⟩ : ∃ x, Hid (R.epochAt b ((p : Int) + 1) = x) := ⟨_, Lib.hid rfl⟩
        have HG : Hid (R.agree a b ((p : Int) + 1) = (decide (ea = eb) && decide (ea ≠ 0))) := Lib.hid (by unfold R.agree; rw [HEA.out, HEB.out])
        go_wp2_with fail
        refine (refEpoch_at a _ ((p : Int) + 1) ea _ HA.out hl HEA).mono ?_
        rintro x w1 ⟨rfl, rfl⟩
        go_wp2_with fail
        refine (refEpoch_at b _ ((p : Int) + 1) eb _ HB.out hl2 HEB).mono ?_
        rintro x w1 ⟨rfl, rfl⟩
        by_cases he : ea = eb
        · subst he
          go_wp2_with fail
          refine (refEpoch_at a _ ((p : Int) + 1) ea _ HA.out hl HEA).mono ?_
          rintro x w1 ⟨rfl, rfl⟩
          by_cases h0 : ea = 0
          · have HS := Lib.hid (show p = r by rw [← HFF.out]; exact (forkF_stop hpn (by rw [HG.out, h0]; rfl)).symm)
            subst h0
            go_wp2
            go_ret
            rw [HS.out]
            exact ⟨rfl, rfl⟩
          · have HS := Lib.hid (show R.forkF a b ((min la lb).toNat - (p + 1)) (p + 1) = r by rw [← HFF.out]; exact (forkF_go hpn (by rw [HG.out]; simp [h0])).symm)
            have h0i : (ea == 0) = false := beq_eq_false_iff_ne.2 h0
            have h0n : (ea != 0) = true := by simp [h0]
            clear h0
            go_wp2
            go_round
            case rel => exact ⟨p + 1, by go_num, by omega, HS.out⟩
            case measure => simp [intOf]; omega
        · have HS := Lib.hid (show p = r by rw [← HFF.out]; exact (forkF_stop hpn (by rw [HG.out, decide_eq_false he]; rfl)).symm)
          have hei : (ea == eb) = false := beq_eq_false_iff_ne.2 he
          clear he
          go_wp2
          go_ret
          rw [HS.out]
          exact ⟨rfl, rfl⟩
      · have HS := Lib.hid (show p = r by rw [← HFF.out]; exact (forkF_end (by omega)).symm)
        go_wp2
        go_ret
        rw [HS.out]
        exact ⟨rfl, rfl⟩
    · have HS := Lib.hid (show p = r by rw [← HFF.out]; exact (forkF_end (by omega)).symm)
      go_wp2
      go_ret
      rw [HS.out]
      exact ⟨rfl, rfl⟩

theorem mk_step {xs ys : List R.Mk} {k : Nat} (h1 : k < xs.length) (h2 : k < ys.length) (ht : xs.take k = ys.take k) (he : xs[k] = ys[k]) : xs.take (k + 1) = ys.take (k + 1) := by
  rw [List.take_succ_eq_append_getElem h1, List.take_succ_eq_append_getElem h2, ht, he]
set_option maxHeartbeats 2000000 in
set_option maxRecDepth 100000 in
theorem sameMarks_l (xs ys : List R.Mk) (va vb : Value) (w : World) (ha : ReadsM w va xs) (hb : ReadsM w vb ys) (hl : xs.length ≤ 1000000) (hl2 : ys.length ≤ 1000000) :
    Calls Try.prog 22 #[va, vb] w fun r w' => r = .returned (.bool (decide (xs = ys))) ∧ sQuiet w w' := by
  obtain ⟨p, c, rfl, _, _, hx⟩ := ha
  obtain ⟨q, d, rfl, _, _, hy⟩ := hb
  have HX := Lib.hid hx; clear hx
  have HY := Lib.hid hy; clear hy
  obtain ⟨r, HR⟩ : ∃ r, Hid (decide (xs = ys) = r) := ⟨_, Lib.hid rfl⟩
  rw [HR.out]
  by_cases hne : xs.length = ys.length
  · have hnb : ((xs.length : Int) != (ys.length : Int)) = false := by simp; omega
    have hnn : (xs.length != ys.length) = false := by simpa using hne
    have HNE := Lib.hid hne; clear hne
    go_enter Try.func22, Try.ntmps22
    go_wp2
    go_loopw [5] (fun i wr => ∃ k : Nat, i = .int .i64 k ∧ k ≤ xs.length ∧ xs.take k = ys.take k ∧ sQuiet w wr) (fun i _ => xs.length - (intOf i).toNat)
    case atStart => exact ⟨0, rfl, Nat.zero_le _, by simp, 0, rfl⟩
    case round =>
      obtain ⟨k, rfl, hk, ht, nq, rfl⟩ := hrel
      have HT := Lib.hid ht; clear ht
      by_cases hlt : k < xs.length
      · have hlt2 : k < ys.length := by rw [← HNE.out]; exact hlt
        obtain ⟨b1, o1, rfl, x0, x1⟩ := HX.out k hlt
        obtain ⟨b2, o2, rfl, y0, y1⟩ := HY.out k hlt2
        have hi1 : (k : Int) < (xs.length : Int) := by omega
        have hi2 : (k : Int) < (ys.length : Int) := by omega
        by_cases he : xs[k] = ys[k]
        · have HS := Lib.hid (mk_step hlt hlt2 HT.out he)
          have e1 : (xs[k].1 == ys[k].1) = true := by rw [he]; simp
          have e2 : (xs[k].2 == ys[k].2) = true := by rw [he]; simp
          clear he
          generalize xs[k] = x at *
          generalize ys[k] = y at *
          go_wp2
          go_quiet (fail)
          go_wp2
          go_roundw
          case rel => exact ⟨k + 1, by go_num, by omega, HS.out, _, rfl⟩
          case measure => simp [intOf]; omega
        · have HE := Lib.hid (show r = false by
            rw [← HR.out]
            exact decide_eq_false fun h => by subst h; exact he rfl)
          by_cases he1 : xs[k].1 = ys[k].1
          · have he2 : ¬ xs[k].2 = ys[k].2 := fun h => he (Prod.ext he1 h)
            have e1 : (xs[k].1 == ys[k].1) = true := beq_iff_eq.2 he1
            have e2 : (xs[k].2 == ys[k].2) = false := beq_eq_false_iff_ne.2 he2
            clear he he1 he2
            generalize xs[k] = x at *
            generalize ys[k] = y at *
            go_wp2
            go_quiet (fail)
            go_wp2
            go_ret
            rw [HE.out]
            exact ⟨rfl, quiet_two _ _ _⟩
          · have e1 : (xs[k].1 == ys[k].1) = false := beq_eq_false_iff_ne.2 he1
            clear he he1
            generalize xs[k] = x at *
            generalize ys[k] = y at *
            go_wp2
            go_quiet (fail)
            go_wp2
            go_ret
            rw [HE.out]
            exact ⟨rfl, quiet_two _ _ _⟩
      · have HE := Lib.hid (show r = true by
          rw [← HR.out]
          have h1 := HT.out
          rw [List.take_of_length_le (by omega), List.take_of_length_le (by rw [← HNE.out]; omega)] at h1
          exact decide_eq_true h1)
        go_wp2
        go_ret
        rw [HE.out]
        exact ⟨rfl, ⟨_, rfl⟩⟩
  · have HE := Lib.hid (show r = false by
      rw [← HR.out]
      exact decide_eq_false fun h => hne (by rw [h]))
    have hnb : ((xs.length : Int) != (ys.length : Int)) = true := by simp; omega
    have hnn : (xs.length != ys.length) = true := by simpa using hne
    clear hne
    go_enter Try.func22, Try.ntmps22
    go_wp2
    go_ret
    rw [HE.out]
    exact ⟨rfl, 0, rfl⟩
end Go.Proofs.Ytfhopgficckjkaa
