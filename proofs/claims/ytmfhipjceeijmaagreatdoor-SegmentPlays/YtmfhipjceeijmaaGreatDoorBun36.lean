/-
  Own texts, joined: SegCode1 SegCode2 SegCode3
-/
import Derived.Test.YtmfhipjceeijmaaGreatDoorBun20
import Derived.Test.YtmfhipjceeijmaaGreatDoorBun32
import Derived.Lib.AtoiTie
import Derived.Lib.ItoaWalk
import Derived.Test.YtmfhipjceeijmaaGreatDoorBun9

/-
  The segment package: between, CutPrefix, Name, Number.
-/
namespace Go.Proofs.YtmfhipjceeijmaaGreatDoor.G
open Go.RowKit
open D (dP)
attribute [local go_sem] ext_Bd ext_Bl ext_Bt toList_B add_B size_B get_Bt

theorem dec_lib : ∀ n : Nat, Lib.decDigits n = dec n := fun n => by
  induction n using Nat.strongRecOn with
  | ind n ih =>
    by_cases h : n < 10
    · rw [Lib.decDigits, dif_pos h, dec_one h]
    · rw [Lib.decDigits, dif_neg h, dec_step (by omega), ih (n / 10) (by omega)]
theorem decFrom_append : ∀ (a b : List UInt8) (acc : Nat), Lib.decFrom acc (a ++ b) = (Lib.decFrom acc a).bind fun m => Lib.decFrom m b
  | [], _, _ => rfl
  | c :: a, b, acc => by
    have e : ∀ (l : List UInt8) (k : Nat), Lib.decFrom k (c :: l) = (match Lib.digitVal c with | some d => Lib.decFrom (k * 10 + d) l | none => none) := fun _ _ => rfl
    rw [List.cons_append, e, e]
    cases h : Lib.digitVal c with
    | none => rfl
    | some d => exact decFrom_append a b _
theorem digit_of {d : Nat} (h : d < 10) : Lib.digitVal (UInt8.ofNat (48 + d)) = some d := by
  have h1 := dig d h
  unfold Lib.digitVal
  rw [h1, if_pos (by omega)]
  simp
theorem dec_from : ∀ n : Nat, Lib.decFrom 0 (dec n) = some n := fun n => by
  induction n using Nat.strongRecOn with
  | ind n ih =>
    by_cases h : n < 10
    · rw [dec_one h]
      unfold Lib.decFrom
      rw [digit_of h]
      simp [Lib.decFrom]
    · rw [dec_step (by omega), decFrom_append, ih (n / 10) (by omega)]
      show Lib.decFrom (n / 10) [UInt8.ofNat (48 + n % 10)] = some n
      unfold Lib.decFrom
      rw [digit_of (by omega)]
      simp [Lib.decFrom]
      omega
theorem dec_head : ∀ n : Nat, ∃ d t, d < 10 ∧ dec n = UInt8.ofNat (48 + d) :: t := fun n => by
  induction n using Nat.strongRecOn with
  | ind n ih =>
    by_cases h : n < 10
    · exact ⟨n, [], h, dec_one h⟩
    · obtain ⟨d, t, hd, he⟩ := ih (n / 10) (by omega)
      exact ⟨d, t ++ [UInt8.ofNat (48 + n % 10)], hd, by rw [dec_step (by omega), he]; rfl⟩
theorem atoi_dec {n : Nat} (h : n ≤ 1073741824) : Lib.atoiAll (dec n) = .ok (n : Int) := by
  have hl := dec_len 9 n (by omega)
  rw [Lib.atoiAll_short _ (by omega)]
  obtain ⟨d, t, hd, he⟩ := dec_head n
  have hv := dec_from n
  have h1 := dig d hd
  have : Lib.atoi (dec n) = some (n : Int) := by
    rw [he] at hv ⊢
    have e0 : ∀ (c : UInt8) (r : List UInt8), Lib.atoi (c :: r) = (if c == 45 then (Lib.decNat r).map fun (m : Nat) => -(m : Int) else if c == 43 then (Lib.decNat r).map fun (m : Nat) => (m : Int) else (Lib.decNat (c :: r)).map fun (m : Nat) => (m : Int)) := fun _ _ => rfl
    rw [e0]
    have e1 : (UInt8.ofNat (48 + d) == 45) = false := beq_eq_false_iff_ne.2 fun e => by rw [e] at h1; simp at h1; omega
    have e2 : (UInt8.ofNat (48 + d) == 43) = false := beq_eq_false_iff_ne.2 fun e => by rw [e] at h1; simp at h1; omega
    rw [e1, e2]
    unfold Lib.decNat
    simp only [Bool.false_eq_true, if_false]
    rw [hv]
    rfl
  rw [this]
  rfl

theorem below_grow_drew (w : World) (k : Nat) (os : Array Obj) : Below w.heap.size w (Go.Sort.grow (w.drewN k) os) := by
  refine ⟨rfl, rfl, rfl, ?_, fun j hj => ?_⟩
  · show w.heap.size ≤ (w.heap ++ os).size
    rw [Array.size_append]; omega
  · show (w.heap ++ os)[j]? = w.heap[j]?
    rw [Array.getElem?_append_left hj]
theorem CutPre_yes (p t : Tx) (w : World) :
    Calls Tryz.prog 57 #[.string (B (p ++ t)), .string (B p)] w fun x w' => x = .returned (.tuple #[.string (B t), .bool true]) ∧ w' = w := by
  obtain ⟨s, hs⟩ : ∃ s, p ++ t = s := ⟨_, rfl⟩
  have hl : (p.length : Int) ≤ (s.length : Int) := by rw [← hs, List.length_append]; omega
  have he : ((s.take p.length) == p) = true := by rw [← hs]; simp
  have hd : s.drop p.length = t := by rw [← hs]; simp
  have HD := Lib.hid hd
  rw [hs]
  clear hs hd
  go_enter Tryz.func57, Tryz.ntmps57
  go_wp2
  go_ret2
  rw [HD.out]
  exact ⟨rfl, rfl⟩
theorem CutPre_no (s p : Tx) (w : World) (h : s.take p.length ≠ p) :
    Calls Tryz.prog 57 #[.string (B s), .string (B p)] w fun x w' => x = .returned (.tuple #[.string (B s), .bool false]) ∧ w' = w := by
  by_cases hl : p.length ≤ s.length
  · have hli : (p.length : Int) ≤ (s.length : Int) := by omega
    have he : ((s.take p.length) == p) = false := beq_eq_false_iff_ne.2 h
    clear h hl
    go_enter Tryz.func57, Tryz.ntmps57
    go_wp2
    go_ret2
    exact ⟨rfl, rfl⟩
  · have hli : ¬ (p.length : Int) ≤ (s.length : Int) := by omega
    clear h hl
    go_enter Tryz.func57, Tryz.ntmps57
    go_wp2
    go_ret2
    exact ⟨rfl, rfl⟩

theorem Name_l (z : Int) (w : World) (hz : i64B z) (hT : Tabs w ∨ z < 100) :
    Calls Tryz.prog 16 #[.int .i64 z] w fun x w' => x = .returned (.string (B (nameS z))) ∧ Below w.heap.size w w' := by
  obtain ⟨hz1, hz2⟩ := hz
  by_cases h1 : 1 ≤ z
  · by_cases h2 : z ≤ 1073741824
    · obtain ⟨n, rfl⟩ : ∃ n : Nat, z = n := ⟨z.toNat, by omega⟩
      have HN := Lib.hid (name_some (z := (n : Int)) ⟨h1, h2⟩)
      rw [Int.toNat_natCast] at HN
      obtain ⟨d, hd⟩ : ∃ d, dec n = d := ⟨_, rfl⟩
      have hdl : d.length ≤ 10 := by rw [← hd]; exact dec_len 9 n (by omega)
      have hcall : Calls Tryz.prog 56 #[.int .i64 (n : Int)] w fun x w' => x = .returned (.string (B d)) ∧ Below w.heap.size w w' := by
        rcases hT with hT | hT
        · refine (Tryz.strconv_Itoa (n : Int) (by omega) (by omega) w hT.1).mono ?_
          rintro x w' ⟨rfl, k, os, rfl⟩
          refine ⟨?_, below_grow_drew w k os⟩
          unfold Lib.itoa
          rw [if_neg (by omega), Int.toNat_natCast, dec_lib, hd]
          rfl
        · refine (Tryz.strconv_Itoa_small n (by omega) w).mono ?_
          rintro x w' ⟨rfl, rfl⟩
          exact ⟨by rw [dec_lib, hd]; rfl, Below.refl _ _⟩
      have HC := Lib.hid hcall
      rw [hd] at HN
      clear hcall hd hT
      go_enter Tryz.func16, Tryz.ntmps16
      go_wp2_with (first | (go_at_call 49; go_in) | (go_at_call 56; refine HC.out.mono ?_; rintro x w1 ⟨rfl, hb⟩))
      go_ret
      rw [HN.out]
      exact ⟨rfl, hb⟩
    · have HN := Lib.hid (name_none (z := z) (by omega))
      clear hT
      go_enter Tryz.func16, Tryz.ntmps16
      go_wp2
      go_ret
      rw [HN.out]
      exact ⟨rfl, Below.refl _ _⟩
  · have HN := Lib.hid (name_none (z := z) (by omega))
    clear hT
    go_enter Tryz.func16, Tryz.ntmps16
    go_wp2
    go_ret
    rw [HN.out]
    exact ⟨rfl, Below.refl _ _⟩
end Go.Proofs.YtmfhipjceeijmaaGreatDoor.G

/-
  The segment package: Number.
-/
namespace Go.Proofs.YtmfhipjceeijmaaGreatDoor.G
open Go.RowKit
open D (dP)
attribute [local go_sem] ext_Bd ext_Bl ext_Bt toList_B add_B size_B get_Bt

/-- What CutPrefix leaves. -/
def cutd (s : Tx) : Tx := if s.take 4 = head4 then s.drop 4 else s
theorem cutd_len (s : Tx) : (cutd s).length ≤ s.length := by
  unfold cutd
  split
  · rw [List.length_drop]; omega
  · exact Nat.le_refl _
theorem cutd_name {k : Nat} (h1 : 1 ≤ k) (h2 : k ≤ 1073741824) : cutd (nameS (k : Int)) = dec k := by
  unfold cutd
  rw [name_some (by omega), Int.toNat_natCast]
  simp [head4]
theorem Cut4 (s : Tx) (w : World) :
    Calls Tryz.prog 57 #[.string (B s), .string ⟨#[115, 101, 103, 45]⟩] w fun x w' => (∃ b, x = .returned (.tuple #[.string (B (cutd s)), .bool b])) ∧ w' = w := by
  by_cases h : s.take 4 = head4
  · have h2 : s = head4 ++ s.drop 4 := by rw [← h, List.take_append_drop]
    have h3 : cutd s = s.drop 4 := by unfold cutd; rw [if_pos h]
    rw [h3]
    generalize s.drop 4 = t at *
    subst h2
    exact (CutPre_yes head4 t w).mono fun x w' ⟨a, b⟩ => ⟨⟨_, a⟩, b⟩
  · have h3 : cutd s = s := by unfold cutd; rw [if_neg h]
    rw [h3]
    exact (CutPre_no s head4 w h).mono fun x w' ⟨a, b⟩ => ⟨⟨_, a⟩, b⟩
theorem end_cases {α : Type} (x : Lib.NumEnd α) : (∃ v, x = .ok v) ∨ x = Lib.NumEnd.ofOption none ∨ x = .range := by
  cases x
  · exact .inl ⟨_, rfl⟩
  · exact .inr (.inl rfl)
  · exact .inr (.inr rfl)
theorem num_same {s : Tx} {v : Int} (h : Lib.atoiAll (cutd s) = .ok v) (hn : nameS v = s) : (numS s : Int) = v := by
  by_cases hv : 1 ≤ v ∧ v ≤ 1073741824
  · rw [← hn, num_name hv]; omega
  · rw [name_none hv] at hn
    subst hn
    cases h
theorem num_off {s : Tx} (h : ∀ v, Lib.atoiAll (cutd s) = .ok v → nameS v ≠ s) : numS s = 0 := by
  refine num_zero fun k h1 h2 hk => ?_
  refine h k ?_ hk
  rw [← hk, cutd_name h1 h2]
  exact atoi_dec h2

set_option maxRecDepth 100000 in
theorem Number_l (s : Tx) (w : World) (hl : s.length ≤ 1000) (hT : Tabs w ∨ ∃ k : Nat, 1 ≤ k ∧ k < 100 ∧ s = nameS (k : Int)) :
    Calls Tryz.prog 17 #[.string (B s)] w fun x w' => x = .returned (.int .i64 (numS s : Int)) ∧ Below w.heap.size w w' := by
  have hdl : (cutd s).length ≤ 1000 := Nat.le_trans (cutd_len s) hl
  have hsz : (B (cutd s)).size ≤ 1000 := by rw [size_B]; exact hdl
  have hLd : (B (cutd s)).data.toList = cutd s := L_B _
  obtain ⟨d, hd⟩ : ∃ d, cutd s = d := ⟨_, rfl⟩
  have HCUT := Lib.hid (Cut4 s w)
  rcases end_cases (Lib.atoiAll (cutd s)) with ⟨v, ha⟩ | ha | ha
  · -- a number
    have hvb := Lib.atoiAll_bounds ha
    have HN := Lib.hid (show Tabs w ∨ v < 100 by
      rcases hT with h | ⟨k, h1, h2, rfl⟩
      · exact .inl h
      · rw [cutd_name h1 (by omega), atoi_dec (by omega)] at ha
        cases ha
        exact .inr (by omega))
    have HA := Lib.hid (Tryz.strconv_Atoi_ok (B (cutd s)) (by omega) v (by rw [hLd]; exact ha) w)
    have HV : Hid (i64B v) := Lib.hid (by unfold i64B; omega)
    rw [hd] at HA HCUT
    by_cases hn : nameS v = s
    · have HR := Lib.hid (num_same ha hn)
      clear ha hd hT hLd hsz hvb
      obtain ⟨nm, hnm⟩ : ∃ nm, nameS v = nm := ⟨_, rfl⟩
      have HNM := Lib.hid hnm
      have hq : (nm == s) = true := by rw [← hnm, hn]; simp
      clear hnm hn
      go_enter Tryz.func17, Tryz.ntmps17
      go_wp2_with fail
      refine HCUT.out.mono ?_
      rintro x w1 ⟨⟨b, rfl⟩, rfl⟩
      go_wp2_with fail
      refine HA.out.mono ?_
      rintro x w2 ⟨rfl, hw⟩
      have hb2 : Below w1.heap.size w1 w2 := by
        rcases hw with rfl | ⟨t, rfl⟩
        · exact Below.refl _ _
        · exact Lib.bytesWorld_below _ _ _
      have HN2 := Lib.hid (Name_l v w2 HV.out (HN.out.imp (fun h => h.below hb2) id))
      rw [HNM.out] at HN2
      clear hw
      go_wp2_with fail
      refine HN2.out.mono ?_
      rintro x w3 ⟨rfl, hb3⟩
      go_wp2
      go_ret
      rw [HR.out]
      exact ⟨rfl, hb2.trans (hb3.mono hb2.size)⟩
    · have HR := Lib.hid (num_off (s := s) fun v2 h2 => by rw [ha] at h2; cases h2; exact hn)
      clear ha hd hT hLd hsz hvb
      obtain ⟨nm, hnm⟩ : ∃ nm, nameS v = nm := ⟨_, rfl⟩
      have HNM := Lib.hid hnm
      have hq : (nm == s) = false := by rw [← hnm]; simpa using hn
      clear hnm hn
      go_enter Tryz.func17, Tryz.ntmps17
      go_wp2_with fail
      refine HCUT.out.mono ?_
      rintro x w1 ⟨⟨b, rfl⟩, rfl⟩
      go_wp2_with fail
      refine HA.out.mono ?_
      rintro x w2 ⟨rfl, hw⟩
      have hb2 : Below w1.heap.size w1 w2 := by
        rcases hw with rfl | ⟨t, rfl⟩
        · exact Below.refl _ _
        · exact Lib.bytesWorld_below _ _ _
      have HN2 := Lib.hid (Name_l v w2 HV.out (HN.out.imp (fun h => h.below hb2) id))
      rw [HNM.out] at HN2
      clear hw
      go_wp2_with fail
      refine HN2.out.mono ?_
      rintro x w3 ⟨rfl, hb3⟩
      go_wp2
      go_ret
      rw [HR.out]
      exact ⟨rfl, hb2.trans (hb3.mono hb2.size)⟩
  · -- no number
    have HR := Lib.hid (num_off (s := s) fun v2 h2 => by rw [ha] at h2; cases h2)
    have hT1 : Tabs w := by
      rcases hT with h | ⟨k, h1, h2, rfl⟩
      · exact h
      · rw [cutd_name h1 (by omega), atoi_dec (by omega)] at ha
        cases ha
    obtain ⟨_, ⟨tp, p, hv⟩, _⟩ := hT1
    have HA := Lib.hid (Tryz.strconv_Atoi_syntax_var (B (cutd s)) (by omega) (by rw [hLd]; exact ha) tp p w hv)
    rw [hd] at HA HCUT
    clear ha hd hT hLd hsz hv
    go_enter Tryz.func17, Tryz.ntmps17
    go_wp2_with fail
    refine HCUT.out.mono ?_
    rintro x w1 ⟨⟨b, rfl⟩, rfl⟩
    go_wp2_with fail
    refine HA.out.mono ?_
    rintro x w2 ⟨n, rfl, _, _, hb2⟩
    go_wp2
    go_ret
    rw [HR.out]
    exact ⟨rfl, hb2⟩
  · -- too far
    have HR := Lib.hid (num_off (s := s) fun v2 h2 => by rw [ha] at h2; cases h2)
    have hT1 : Tabs w := by
      rcases hT with h | ⟨k, h1, h2, rfl⟩
      · exact h
      · rw [cutd_name h1 (by omega), atoi_dec (by omega)] at ha
        cases ha
    obtain ⟨_, _, tp, p, hv⟩ := hT1
    have HA := Lib.hid (Tryz.strconv_Atoi_range_var (B (cutd s)) (by omega) (by rw [hLd]; exact ha) tp p w hv)
    rw [hd] at HA HCUT
    clear ha hd hT hLd hsz hv
    generalize Lib.atoiSat (B (cutd s)).data.toList = sat at *
    go_enter Tryz.func17, Tryz.ntmps17
    go_wp2_with fail
    refine HCUT.out.mono ?_
    rintro x w1 ⟨⟨b, rfl⟩, rfl⟩
    go_wp2_with fail
    refine HA.out.mono ?_
    rintro x w2 ⟨n, rfl, _, _, hb2⟩
    go_wp2
    go_ret
    rw [HR.out]
    exact ⟨rfl, hb2⟩
end Go.Proofs.YtmfhipjceeijmaaGreatDoor.G

/-
  The segment package: headOf, firstOf.
-/
namespace Go.Proofs.YtmfhipjceeijmaaGreatDoor.G
open Go.RowKit
open D (dP)
attribute [local go_sem] ext_Bd ext_Bl ext_Bt toList_B add_B size_B get_Bt

set_option maxRecDepth 100000 in
theorem headOf_l (n : Nat) (w : World) (h : n ≤ far) :
    Calls Tryz.prog 52 #[.int .i64 (n : Int)] w fun x w' => x = .returned (.string (B (headP n))) ∧ Below w.heap.size w w' := by
  have HP := Lib.hid (Put_l n w (by unfold far at h; omega))
  have hlen := N.putL_len6 (m := n) (by unfold far at h; omega)
  clear h
  have HN := Lib.hid (show headP n = 115 :: N.putL n from rfl)
  generalize N.putL n = l at *
  go_enter Tryz.func52, Tryz.ntmps52
  go_wp2_with fail
  refine HP.out.mono ?_
  rintro x w1 ⟨rfl, hb⟩
  go_wp2
  go_ret
  rw [HN.out]
  exact ⟨rfl, hb⟩

theorem between_l (n lo hi : Int) (b : Bool) (w : World) (H : Hid (decide (lo ≤ n ∧ n ≤ hi) = b)) :
    Calls Tryz.prog 49 #[.int .i64 n, .int .i64 lo, .int .i64 hi] w fun x w' => x = .returned (.bool b) ∧ w' = w := by
  by_cases h1 : lo ≤ n
  · by_cases h2 : n ≤ hi
    · have HB : Hid (b = true) := Lib.hid (by rw [← H.out]; simp [h1, h2])
      clear H
      go_enter Tryz.func49, Tryz.ntmps49
      go_wp2
      go_ret
      rw [HB.out]
      exact ⟨by simp, rfl⟩
    · have HB : Hid (b = false) := Lib.hid (by rw [← H.out]; simp [h2])
      clear H
      go_enter Tryz.func49, Tryz.ntmps49
      go_wp2
      go_ret
      rw [HB.out]
      exact ⟨by simp, rfl⟩
  · have HB : Hid (b = false) := Lib.hid (by rw [← H.out]; simp [h1])
    clear H
    go_enter Tryz.func49, Tryz.ntmps49
    go_wp2
    go_ret
    rw [HB.out]
    exact ⟨rfl, rfl⟩
theorem Cut1_yes (c : UInt8) (t : Tx) (w : World) :
    Calls Tryz.prog 57 #[.string (B (c :: t)), .string ⟨#[c]⟩] w fun x w' => x = .returned (.tuple #[.string (B t), .bool true]) ∧ w' = w := CutPre_yes [c] t w
theorem Cut1_no (c : UInt8) (s : Tx) (w : World) (h : s.head? ≠ some c) :
    Calls Tryz.prog 57 #[.string (B s), .string ⟨#[c]⟩] w fun x w' => x = .returned (.tuple #[.string (B s), .bool false]) ∧ w' = w :=
  CutPre_no s [c] w fun e => by
    cases s with
    | nil => cases e
    | cons a t => simp at e; exact h (by rw [e]; rfl)
theorem quiet_below (w : World) (n : Nat) : Below w.heap.size w (w.drewN n) := ⟨rfl, rfl, rfl, Nat.le_refl _, fun _ _ => rfl⟩
set_option maxRecDepth 100000 in
set_option maxHeartbeats 1000000 in
theorem firstOf_yes (p : Tx) (n : Nat) (w : World) (h : headOf p = some n) :
    Calls Tryz.prog 41 #[.string (B p)] w fun x w' => x = .returned (.tuple #[.int .i64 (n : Int), .bool true]) ∧ Below w.heap.size w w' := by
  obtain ⟨rfl, h1, h2⟩ := headOf_inv h
  have HC := Lib.hid (Cut1_yes 115 (N.putL n) w)
  have hlen := N.putL_len6 (m := n) (by unfold far at h2; omega)
  have HT := Lib.hid (show N.takeL (N.putL n) = Sum.inl (n, []) by
    have := N.take_put (n := n) (by unfold far at h2; omega) []
    rwa [List.append_nil] at this)
  have h1i : (1 : Int) ≤ (n : Int) := by omega
  have h2i : (n : Int) ≤ 274877906944 := by unfold far at h2; omega
  have HBT : Hid (decide ((1 : Int) ≤ (n : Int) ∧ (n : Int) ≤ 274877906944) = true) := Lib.hid (by simp; omega)
  clear h h1 h2 h1i h2i
  rw [show headP n = 115 :: N.putL n from rfl]
  generalize N.putL n = l at *
  generalize (115 :: l : Tx) = s at *
  go_enter Tryz.func41, Tryz.ntmps41
  go_wp2_with fail
  refine HC.out.mono ?_
  rintro x w1 ⟨rfl, rfl⟩
  go_wp2_with fail
  refine (Take_l l w1 (by omega)).mono ?_
  rintro x w2 ⟨rfl, k, rfl⟩
  rw [HT.out, show tkRes (Sum.inl (n, [])) = _ from tkRes_ok n []]
  have he : (([] : Tx) == []) = true := rfl
  go_wp2_with (go_at_call 49; refine (between_l _ _ _ true _ HBT).mono ?_; rintro x w' ⟨rfl, rfl⟩)
  go_ret2
  exact ⟨rfl, quiet_below _ _⟩

set_option maxRecDepth 100000 in
set_option maxHeartbeats 2000000 in
theorem firstOf_no (p : Tx) (w : World) (hl : p.length ≤ 100000) (h : headOf p = none) :
    Calls Tryz.prog 41 #[.string (B p)] w fun x w' => (∃ f : Int, x = .returned (.tuple #[.int .i64 f, .bool false])) ∧ Below w.heap.size w w' := by
  by_cases h0 : p.head? = some 115
  · obtain ⟨t, rfl⟩ : ∃ t, p = 115 :: t := by
      cases p with
      | nil => cases h0
      | cons a t => cases h0; exact ⟨t, rfl⟩
    have HC := Lib.hid (Cut1_yes 115 t w)
    have htl : t.length ≤ 100000 := by rw [List.length_cons] at hl; omega
    rcases N.takeL_cases t with ⟨e, ht⟩ | ⟨m, r, ht⟩
    · have hpos := K.num_errs t e ht
      have hei : ((e : Int) == 0) = false := beq_eq_false_iff_ne.2 (by omega)
      have hen : ¬ e = 0 := by omega
      have HT := Lib.hid ht
      clear ht h h0 hl
      generalize (115 :: t : Tx) = s at *
      go_enter Tryz.func41, Tryz.ntmps41
      go_wp2_with fail
      refine HC.out.mono ?_
      rintro x w1 ⟨rfl, rfl⟩
      go_wp2_with fail
      refine (Take_l t w1 (by omega)).mono ?_
      rintro x w2 ⟨rfl, k, rfl⟩
      rw [HT.out, show tkRes (Sum.inr e) = _ from tkRes_bad e]
      go_wp2
      go_ret2
      exact ⟨⟨_, rfl⟩, quiet_below _ _⟩
    · by_cases hr : r = []
      · subst hr
        have hm : ¬ (1 ≤ m ∧ m ≤ far) := fun hm => by
          unfold headOf at h
          simp [ht, hm] at h
        have HT := Lib.hid ht
        have he : (([] : Tx) == []) = true := rfl
        have HBT : Hid (decide ((1 : Int) ≤ (m : Int) ∧ (m : Int) ≤ 274877906944) = false) := Lib.hid (by
          rw [decide_eq_false_iff_not]
          unfold far at hm
          omega)
        clear ht h h0 hl hm
        generalize (115 :: t : Tx) = s at *
        go_enter Tryz.func41, Tryz.ntmps41
        go_wp2_with fail
        refine HC.out.mono ?_
        rintro x w1 ⟨rfl, rfl⟩
        go_wp2_with fail
        refine (Take_l t w1 (by omega)).mono ?_
        rintro x w2 ⟨rfl, k, rfl⟩
        rw [HT.out, show tkRes (Sum.inl (m, [])) = _ from tkRes_ok m []]
        go_wp2_with (go_at_call 49; refine (between_l _ _ _ false _ HBT).mono ?_; rintro x w' ⟨rfl, rfl⟩)
        go_ret2
        exact ⟨⟨_, rfl⟩, quiet_below _ _⟩
      · have HT := Lib.hid ht
        have he : r.isEmpty = false := by cases r with | nil => exact absurd rfl hr | cons a b => rfl
        have he2 : (r == []) = false := beq_eq_false_iff_ne.2 hr
        clear ht h h0 hl hr
        generalize (115 :: t : Tx) = s at *
        go_enter Tryz.func41, Tryz.ntmps41
        go_wp2_with fail
        refine HC.out.mono ?_
        rintro x w1 ⟨rfl, rfl⟩
        go_wp2_with fail
        refine (Take_l t w1 (by omega)).mono ?_
        rintro x w2 ⟨rfl, k, rfl⟩
        rw [HT.out, show tkRes (Sum.inl (m, r)) = _ from tkRes_ok m r]
        go_wp2
        go_ret2
        exact ⟨⟨_, rfl⟩, quiet_below _ _⟩
  · have HC := Lib.hid (Cut1_no 115 p w h0)
    clear h h0
    rcases N.takeL_cases p with ⟨e, ht⟩ | ⟨m, r, ht⟩
    · have HT := Lib.hid ht
      clear ht
      go_enter Tryz.func41, Tryz.ntmps41
      go_wp2_with fail
      refine HC.out.mono ?_
      rintro x w1 ⟨rfl, rfl⟩
      go_wp2_with fail
      refine (Take_l p w1 (by omega)).mono ?_
      rintro x w2 ⟨rfl, k, rfl⟩
      rw [HT.out, show tkRes (Sum.inr e) = _ from tkRes_bad e]
      go_wp2
      go_ret2
      exact ⟨⟨_, rfl⟩, quiet_below _ _⟩
    · have HT := Lib.hid ht
      clear ht
      go_enter Tryz.func41, Tryz.ntmps41
      go_wp2_with fail
      refine HC.out.mono ?_
      rintro x w1 ⟨rfl, rfl⟩
      go_wp2_with fail
      refine (Take_l p w1 (by omega)).mono ?_
      rintro x w2 ⟨rfl, k, rfl⟩
      rw [HT.out, show tkRes (Sum.inl (m, r)) = _ from tkRes_ok m r]
      go_wp2
      go_ret2
      exact ⟨⟨_, rfl⟩, quiet_below _ _⟩
end Go.Proofs.YtmfhipjceeijmaaGreatDoor.G
