/-
  Own texts, joined: SegRefName SegRefNum
-/
import Derived.Test.YtpdnbpihkiijkaaGreatDoorBun6
import Derived.Test.YtpdnbpihkiijkaaGreatDoorBun9

/-
  Walks of the document's answer for names of segments: Decimal, Name, Number.
-/
namespace Go.Proofs.YtpdnbpihkiijkaaGreatDoor.G
open Go.RowKit
attribute [local go_sem] ext_Bd ext_Bl ext_Bt toList_B add_B size_B get_Bt

/-- What is left of a number, and the digits behind it. -/
def DI (z m : Nat) (s : Tx) : Prop := (0 < m ∧ dec m ++ s = dec z) ∨ (m = 0 ∧ s = dec z)
theorem DI.step {z m : Nat} {s : Tx} (h : DI z m s) (hm : 0 < m) : DI z (m / 10) ([UInt8.ofNat (48 + m % 10)] ++ s) := by
  rcases h with ⟨_, h⟩ | ⟨h, _⟩
  · by_cases h10 : m < 10
    · rw [dec_one h10] at h
      refine .inr ⟨by omega, ?_⟩
      rw [show m % 10 = m by omega]
      exact h
    · rw [dec_step (by omega), List.append_assoc] at h
      exact .inl ⟨by omega, h⟩
  · omega
theorem empty_no {p : List UInt8} (h : 0 < p.length) : p.isEmpty = false := by
  cases p with
  | nil => simp at h
  | cons x r => rfl
set_option maxHeartbeats 2000000 in
set_option maxRecDepth 100000 in
theorem Decimal_l (z : Nat) (w : World) (h1 : 1 ≤ z) (h2 : z ≤ 1073741824) :
    Calls Tryz.prog 58 #[.int .i64 (z : Int)] w fun x w' => x = .returned (.string (B (dec z))) ∧ w' = w := by
  go_enter Tryz.func58, Tryz.ntmps58
  go_wp2
  go_loop [0, 3] (fun a b => ∃ (m : Nat) (s : Tx), a = .int .i64 (m : Int) ∧ b = .string (B s) ∧ m ≤ 1073741824 ∧ Hid (DI z m s)) (fun a _ => (intOf a).toNat)
  case atStart => exact ⟨z, [], rfl, rfl, h2, Lib.hid (.inl ⟨by omega, by simp⟩)⟩
  case round =>
    obtain ⟨m, s, rfl, rfl, hm, HI⟩ := hrel
    by_cases h0 : 0 < m
    · have h0i : (0 : Int) < (m : Int) := by omega
      have HN := Lib.hid (HI.out.step h0)
      obtain ⟨d, HD⟩ : ∃ d, Hid (m % 10 = d) := ⟨_, Lib.hid rfl⟩
      obtain ⟨q, HQ⟩ : ∃ q, Hid (m / 10 = q) := ⟨_, Lib.hid rfl⟩
      rw [HD.out, HQ.out] at HN
      have hd : d < 10 := by rw [← HD.out]; omega
      have hq : q < m := by rw [← HQ.out]; omega
      have e1 : (m : Int) % 10 = (d : Int) := by rw [← HD.out]; omega
      have e2 : Int.tmod (m : Int) 10 = (d : Int) := by rw [Int.tmod_eq_emod_of_nonneg (by omega)]; exact e1
      have e3 : (m : Int) / 10 = (q : Int) := by rw [← HQ.out]; omega
      have e4 : Int.tdiv (m : Int) 10 = (q : Int) := by rw [Int.tdiv_eq_ediv_of_nonneg (by omega)]; exact e3
      have hsl : s.length ≤ 10 := by
        have h3 := dec_len 9 z (by omega)
        rcases HI.out with ⟨_, h⟩ | ⟨_, h⟩
        · rw [← h, List.length_append] at h3
          omega
        · rw [h]; exact h3
      clear HD HQ HI
      have HN2 : Hid (∀ t, t = [UInt8.ofNat (48 + d)] ++ s → DI z q t) := Lib.hid fun t h => by rw [h]; exact HN.out
      clear HN
      have : d = 0 ∨ d = 1 ∨ d = 2 ∨ d = 3 ∨ d = 4 ∨ d = 5 ∨ d = 6 ∨ d = 7 ∨ d = 8 ∨ d = 9 := by omega
      rcases this with rfl | rfl | rfl | rfl | rfl | rfl | rfl | rfl | rfl | rfl
      all_goals
        go_wp2
        go_round
        case rel => exact ⟨q, _ :: s, rfl, rfl, by omega, Lib.hid (HN2.out _ rfl)⟩
        case measure => simp [intOf]; omega
    · have h0i : ¬ (0 : Int) < (m : Int) := by omega
      have hs : s = dec z := by
        rcases HI.out with ⟨h, _⟩ | ⟨_, h⟩
        · omega
        · exact h
      have hne := empty_no (p := s) (by rw [hs]; have := dec_pos z; omega)
      have HS := Lib.hid hs
      clear hs
      go_wp2
      go_ret
      rw [HS.out]
      exact ⟨rfl, rfl⟩
set_option maxHeartbeats 2000000 in
set_option maxRecDepth 100000 in
theorem rName_l (z : Int) (w : World) :
    Calls Tryz.prog 19 #[.int .i64 z] w fun x w' => x = .returned (.string (B (nameS z))) ∧ w' = w := by
  by_cases h1 : z < 1
  · go_enter Tryz.func19, Tryz.ntmps19
    go_wp2
    go_ret
    rw [name_none (by omega)]
    exact ⟨rfl, rfl⟩
  by_cases h2 : 1073741824 < z
  · go_enter Tryz.func19, Tryz.ntmps19
    go_wp2
    go_ret
    rw [name_none (by omega)]
    exact ⟨rfl, rfl⟩
  obtain ⟨n, rfl⟩ : ∃ n : Nat, z = (n : Int) := ⟨z.toNat, by omega⟩
  go_enter Tryz.func19, Tryz.ntmps19
  go_wp2_with fail
  refine (Decimal_l n w (by omega) (by omega)).mono ?_
  rintro x w1 ⟨rfl, rfl⟩
  have hdl := dec_len 9 n (by omega)
  go_wp2
  go_ret
  refine ⟨?_, rfl⟩
  rw [name_some (by omega), Int.toNat_natCast]
  rfl
def digB (c : UInt8) : Bool := decide (48 ≤ c.toNat) && decide (c.toNat ≤ 57)
/-- The digits ahead of a place, as a number. -/
def upV (s : Tx) (i : Nat) : Nat := val ((s.take i).drop 4)
theorem upV_next {s : Tx} {i : Nat} (h4 : 4 ≤ i) (hi : i < s.length) : upV s (i + 1) = 10 * upV s i + (s[i].toNat - 48) := by
  unfold upV
  rw [List.take_succ_eq_append_getElem hi, List.drop_append_of_le_length (by rw [List.length_take]; omega), val_append]
theorem upV_lt {s : Tx} {i : Nat} (h4 : 4 ≤ i) (hi : i ≤ s.length) (hd : ∀ j (h : j < s.length), 4 ≤ j → j < i → digB s[j] = true) : upV s i < 10 ^ (i - 4) := by
  induction i with
  | zero => omega
  | succ i ih =>
    by_cases h : i = 3
    · subst h
      have : (s.take 4).drop 4 = [] := List.drop_eq_nil_of_le (by rw [List.length_take]; omega)
      simp [upV, this, val]
    · have h1 := ih (by omega) (by omega) fun j hj h5 h6 => hd j hj h5 (by omega)
      have h2 := hd i (by omega) (by omega) (by omega)
      unfold digB at h2
      rw [Bool.and_eq_true, decide_eq_true_eq, decide_eq_true_eq] at h2
      rw [upV_next (by omega) (by omega), show i + 1 - 4 = (i - 4) + 1 by omega, Nat.pow_succ]
      omega
theorem dec_digs : ∀ (n : Nat), ∀ c ∈ dec n, digB c = true := fun n => by
  induction n using Nat.strongRecOn with
  | ind n ih =>
    intro c hc
    have key : ∀ d, d < 10 → digB (UInt8.ofNat (48 + d)) = true := fun d hd => by
      unfold digB
      rw [dig d hd]
      simp
      omega
    by_cases h : n < 10
    · rw [dec_one h, List.mem_singleton] at hc
      subst hc
      exact key n h
    · rw [dec_step (by omega), List.mem_append, List.mem_singleton] at hc
      rcases hc with hc | rfl
      · exact ih (n / 10) (by omega) c hc
      · exact key _ (by omega)
/-- What a name of a segment is. -/
theorem name_form {k : Nat} {s : Tx} (h1 : 1 ≤ k) (h2 : k ≤ 1073741824) (h : nameS (k : Int) = s) : 5 ≤ s.length ∧ s.length ≤ 14 ∧ s.take 4 = head4 ∧ ∀ j (hj : j < s.length), 4 ≤ j → digB s[j] = true := by
  rw [name_some (by omega), Int.toNat_natCast] at h
  have h3 := dec_pos k
  have h4 := dec_len 9 k (by omega)
  have hl : head4.length = 4 := rfl
  subst h
  refine ⟨by rw [List.length_append]; omega, by rw [List.length_append]; omega, rfl, fun j hj hj4 => ?_⟩
  rw [List.getElem_append_right (by omega)]
  exact dec_digs k _ (List.getElem_mem _)
theorem num_no {s : Tx} (h : ¬ (5 ≤ s.length ∧ s.length ≤ 14 ∧ s.take 4 = head4 ∧ ∀ j (hj : j < s.length), 4 ≤ j → digB s[j] = true)) : numS s = 0 :=
  num_zero fun _ h1 h2 e => h (name_form h1 h2 e)
theorem num_yes {s : Tx} (h5 : 5 ≤ s.length) : numS s = if nameS (upV s s.length : Int) = s then upV s s.length else 0 := by
  have e : upV s s.length = val (s.drop 4) := by unfold upV; rw [List.take_of_length_le (Nat.le_refl _)]
  have hne : s ≠ [] := fun e => by rw [e] at h5; simp at h5
  rw [e]
  unfold numS
  by_cases h : nameS (val (s.drop 4) : Int) = s
  · rw [if_pos ⟨hne, h⟩, if_pos h]
  · rw [if_neg fun h2 => h h2.2, if_neg h]
end Go.Proofs.YtpdnbpihkiijkaaGreatDoor.G

/-
  Walk of the document's answer for names of segments: Number.
-/
namespace Go.Proofs.YtpdnbpihkiijkaaGreatDoor.G
open Go.RowKit
attribute [local go_sem] ext_Bd ext_Bl ext_Bt toList_B add_B size_B get_Bt

theorem bt_at {s : Tx} {i : Nat} (h : i < s.length) : N.bt s i = s[i].toNat := by
  unfold N.bt
  rw [List.getD_eq_getElem?_getD, List.getElem?_eq_getElem h]
  rfl
set_option maxHeartbeats 4000000 in
set_option maxRecDepth 100000 in
theorem rNumber_l (s : Tx) (w : World) (hsm : s.length ≤ 9223372036854775807) :
    Calls Tryz.prog 21 #[.string (B s)] w fun x w' => x = .returned (.int .i64 (numS s : Int)) ∧ w' = w := by
  obtain ⟨r, HR⟩ : ∃ r, Hid (numS s = r) := ⟨_, Lib.hid rfl⟩
  rw [HR.out]
  have HZ : Hid (¬ (5 ≤ s.length ∧ s.length ≤ 14 ∧ s.take 4 = head4 ∧ ∀ j (hj : j < s.length), 4 ≤ j → digB s[j] = true) → r = 0) := Lib.hid fun h => by rw [← HR.out]; exact num_no h
  by_cases h5 : s.length < 5
  · have h5i : (s.length : Int) < 5 := by omega
    have e := HZ.out (by omega)
    subst e
    go_enter Tryz.func21, Tryz.ntmps21
    go_wp2
    go_ret
    exact ⟨rfl, rfl⟩
  have h5i : ¬ (s.length : Int) < 5 := by omega
  by_cases h14 : 14 < s.length
  · have h14i : (14 : Int) < (s.length : Int) := by omega
    have e := HZ.out (by omega)
    subst e
    go_enter Tryz.func21, Tryz.ntmps21
    go_wp2
    go_ret
    exact ⟨rfl, rfl⟩
  have h14i : ¬ (14 : Int) < (s.length : Int) := by omega
  by_cases ht : s.take 4 = head4
  case neg =>
    have e := HZ.out fun h => ht h.2.2.1
    subst e
    have ht1 : (s.take 4 == [115, 101, 103, 45]) = false := beq_eq_false_iff_ne.2 ht
    clear ht
    go_enter Tryz.func21, Tryz.ntmps21
    go_wp2
    go_ret
    exact ⟨rfl, rfl⟩
  have ht1 : (s.take 4 == [115, 101, 103, 45]) = true := beq_iff_eq.2 ht
  have HT := Lib.hid ht
  clear ht
  go_enter Tryz.func21, Tryz.ntmps21
  go_wp2
  go_loop [3, 4] (fun a b => ∃ (v i : Nat), a = .int .i64 (v : Int) ∧ b = .int .i64 (i : Int) ∧ 4 ≤ i ∧ i ≤ s.length ∧ Hid (upV s i = v) ∧ Hid (∀ j (h : j < s.length), 4 ≤ j → j < i → digB s[j] = true)) (fun _ b => s.length - (intOf b).toNat)
  case atStart => exact ⟨0, 4, rfl, rfl, Nat.le_refl _, by omega, Lib.hid (by
    have : (s.take 4).drop 4 = [] := List.drop_eq_nil_of_le (by rw [List.length_take]; omega)
    simp [upV, this, val]), Lib.hid fun j _ h1 h2 => by omega⟩
  case round =>
    obtain ⟨v, i, rfl, rfl, hi4, hil, HV, HD⟩ := hrel
    have hvb : v ≤ 10000000000 := by
      have h1 := upV_lt hi4 hil HD.out
      rw [HV.out] at h1
      have h2 : 10 ^ (i - 4) ≤ 10 ^ 10 := Nat.pow_le_pow_right (by omega) (by omega)
      omega
    have hvi : (v : Int) ≤ 10000000000 := by omega
    by_cases hlt : i < s.length
    · have hi1 : (i : Int) < (s.length : Int) := by omega
      obtain ⟨c, HC⟩ : ∃ c, Hid (N.bt s i = c) := ⟨_, Lib.hid rfl⟩
      have hbc := HC.out
      have HCS : Hid (s[i].toNat = c) := Lib.hid (by rw [← HC.out, bt_at hlt])
      have hc8 : c < 256 := by rw [← HCS.out]; exact s[i].toNat_lt
      by_cases hc1 : c < 48
      · have hc1i : (c : Int) < 48 := by omega
        have e := HZ.out fun h => by
          have := h.2.2.2 i hlt hi4
          unfold digB at this
          rw [Bool.and_eq_true, decide_eq_true_eq, HCS.out] at this
          omega
        subst e
        go_wp2
        go_ret
        exact ⟨rfl, rfl⟩
      have hc1i : ¬ (c : Int) < 48 := by omega
      by_cases hc2 : 57 < c
      · have hc2i : (57 : Int) < (c : Int) := by omega
        have e := HZ.out fun h => by
          have := h.2.2.2 i hlt hi4
          unfold digB at this
          rw [Bool.and_eq_true, decide_eq_true_eq, decide_eq_true_eq, HCS.out] at this
          omega
        subst e
        go_wp2
        go_ret
        exact ⟨rfl, rfl⟩
      have hc2i : ¬ (57 : Int) < (c : Int) := by omega
      have HNX : Hid (upV s (i + 1) = 10 * v + (c - 48)) := Lib.hid (by rw [upV_next hi4 hlt, HV.out, HCS.out])
      have HDX : Hid (∀ j (h : j < s.length), 4 ≤ j → j < i + 1 → digB s[j] = true) := Lib.hid fun j hj h1 h2 => by
        by_cases e : j = i
        · subst e
          unfold digB
          rw [HCS.out]
          simp
          omega
        · exact HD.out j hj h1 (by omega)
      clear HV HD HC HCS
      go_wp2
      go_round
      case rel => exact ⟨10 * v + (c - 48), i + 1, by go_num, by go_num, by omega, by omega, HNX, HDX⟩
      case measure => simp [intOf]; omega
    · have hi1 : ¬ (i : Int) < (s.length : Int) := by omega
      obtain rfl : i = s.length := by omega
      have hny := num_yes (s := s) (by omega)
      rw [HV.out, HR.out] at hny
      clear HV HD
      by_cases he : nameS (v : Int) = s
      · rw [if_pos he] at hny
        subst hny
        have heq : (nameS (r : Int) == s) = true := beq_iff_eq.2 he
        clear he
        go_wp2_with fail
        refine (rName_l (r : Int) w).mono ?_
        rintro x w1 ⟨rfl, rfl⟩
        go_wp2
        go_ret
        exact ⟨rfl, rfl⟩
      · rw [if_neg he] at hny
        subst hny
        have heq : (nameS (v : Int) == s) = false := beq_eq_false_iff_ne.2 he
        clear he
        go_wp2_with fail
        refine (rName_l (v : Int) w).mono ?_
        rintro x w1 ⟨rfl, rfl⟩
        go_wp2
        go_ret
        exact ⟨rfl, rfl⟩
end Go.Proofs.YtpdnbpihkiijkaaGreatDoor.G
