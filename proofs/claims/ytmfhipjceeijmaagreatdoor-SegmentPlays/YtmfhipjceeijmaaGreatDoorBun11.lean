/-
  Own texts, joined: SegRefName SegRefNum
-/
import Derived.Test.YtmfhipjceeijmaaGreatDoorBun6
import Derived.Test.YtmfhipjceeijmaaGreatDoorBun9

/-
  Walks of the document's answer for names of segments: Decimal, Name, Number.
-/
namespace Go.Proofs.YtmfhipjceeijmaaGreatDoor.G
open Go.RowKit
attribute [local go_sem] ext_Bd ext_Bl ext_Bt toList_B add_B size_B get_Bt

/-- What is left of a number, and the digits behind it. -/
def DI (z m : Nat) (s : Tx) : Prop := (0 < m ∧ dec m ++ s = dec z) ∨ (m = 0 ∧ s = dec z)
theorem DI.step {z m : Nat} {s : Tx} (h : DI z m s) (hm : 0 < m) : DI z (m / 10) ([UInt8.ofNat (48 + m % 10)] ++ s) := by
  rcases h with ⟨_, h⟩ | ⟨h, _⟩
  · by_cases h10 : m < 10
    · rw [dec_one h10] at h
      refine .inr ⟨by omega, ?_⟩
      rw [show m % 10 = m by omega]
      exact h
    · rw [dec_step (by omega), List.append_assoc] at h
      exact .inl ⟨by omega, h⟩
  · omega
theorem empty_no {p : List UInt8} (h : 0 < p.length) : p.isEmpty = false := by
  cases p with
  | nil => simp at h
  | cons x r => rfl
set_option maxHeartbeats 2000000 in
set_option maxRecDepth 100000 in
theorem Decimal_l (z : Nat) (w : World) (h1 : 1 ≤ z) (h2 : z ≤ 1073741824) :
    Calls Tryz.prog 68 #[.int .i64 (z : Int)] w fun x w' => x = .returned (.string (B (dec z))) ∧ w' = w := by
  go_enter Tryz.func68, Tryz.ntmps68
  go_wp2
  go_loop [0, 3] (fun a b => ∃ (m : Nat) (s : Tx), a = .int .i64 (m : Int) ∧ b = .string (B s) ∧ m ≤ 1073741824 ∧ Hid (DI z m s)) (fun a _ => (intOf a).toNat)
  case atStart => exact ⟨z, [], rfl, rfl, h2, Lib.hid (.inl ⟨by omega, by simp⟩)⟩
  case round =>
    obtain ⟨m, s, rfl, rfl, hm, HI⟩ := hrel
    by_cases h0 : 0 < m
    · have h0i : (0 : Int) < (m : Int) := by omega
      have HN := Lib.hid (HI.out.step h0)
      obtain ⟨d, HD⟩ : ∃ d, Hid (m % 10 = d) := ⟨_, Lib.hid rfl⟩
      obtain ⟨q, HQ⟩ : ∃ q, Hid (m / 10 = q) := ⟨_, Lib.hid rfl⟩
      rw [HD.out, HQ.out] at HN
      have hd : d < 10 := by rw [← HD.out]; omega
      have hq : q < m := by rw [← HQ.out]; omega
      have e1 : (m : Int) % 10 = (d : Int) := by rw [← HD.out]; omega
      have e2 : Int.tmod (m : Int) 10 = (d : Int) := by rw [Int.tmod_eq_emod_of_nonneg (by omega)]; exact e1
      have e3 : (m : Int) / 10 = (q : Int) := by rw [← HQ.out]; omega
      have e4 : Int.tdiv (m : Int) 10 = (q : Int) := by rw [Int.tdiv_eq_ediv_of_nonneg (by omega)]; exact e3
      have hsl : s.length ≤ 10 := by
        have h3 := dec_len 9 z (by omega)
        rcases HI.out with ⟨_, h⟩ | ⟨_, h⟩
        · rw [← h, List.length_append] at h3
          omega
        · rw [h]; exact h3
      clear HD HQ HI
      have HN2 : Hid (∀ t, t = [UInt8.ofNat (48 + d)] ++ s → DI z q t) := Lib.hid fun t h => by rw [h]; exact HN.out
      clear HN
      have : d = 0 ∨ d = 1 ∨ d = 2 ∨ d = 3 ∨ d = 4 ∨ d = 5 ∨ d = 6 ∨ d = 7 ∨ d = 8 ∨ d = 9 := by omega
      rcases this with rfl | rfl | rfl | rfl | rfl | rfl | rfl | rfl | rfl | rfl
      all_goals
        go_wp2
        go_round
        case rel => exact ⟨q, _ :: s, rfl, rfl, by omega, Lib.hid (HN2.out _ rfl)⟩
        case measure => simp [intOf]; omega
    · have h0i : ¬ (0 : Int) < (m : Int) := by omega
      have hs : s = dec z := by
        rcases HI.out with ⟨h, _⟩ | ⟨_, h⟩
        · omega
        · exact h
      have hne := empty_no (p := s) (by rw [hs]; have := dec_pos z; omega)
      have HS := Lib.hid hs
      clear hs
      go_wp2
      go_ret
      rw [HS.out]
      exact ⟨rfl, rfl⟩
set_option maxHeartbeats 2000000 in
set_option maxRecDepth 100000 in
theorem rName_l (z : Int) (w : World) :
    Calls Tryz.prog 27 #[.int .i64 z] w fun x w' => x = .returned (.string (B (nameS z))) ∧ w' = w := by
  by_cases h1 : z < 1
  · go_enter Tryz.func27, Tryz.ntmps27
    go_wp2
    go_ret
    rw [name_none (by omega)]
    exact ⟨rfl, rfl⟩
  by_cases h2 : 1073741824 < z
  · go_enter Tryz.func27, Tryz.ntmps27
    go_wp2
    go_ret
    rw [name_none (by omega)]
    exact ⟨rfl, rfl⟩
  obtain ⟨n, rfl⟩ : ∃ n : Nat, z = (n : Int) := ⟨z.toNat, by omega⟩
  go_enter Tryz.func27, Tryz.ntmps27
  go_wp2_with fail
  refine (Decimal_l n w (by omega) (by omega)).mono ?_
  rintro x w1 ⟨rfl, rfl⟩
  have hdl := dec_len 9 n (by omega)
  go_wp2
  go_ret
  refine ⟨?_, rfl⟩
  rw [name_some (by omega), Int.toNat_natCast]
  rfl
end Go.Proofs.YtmfhipjceeijmaaGreatDoor.G

/-
  Walk of the document's answer for names of segments: Number.
-/
namespace Go.Proofs.YtmfhipjceeijmaaGreatDoor.G
open Go.RowKit
attribute [local go_sem] ext_Bd ext_Bl ext_Bt toList_B add_B size_B get_Bt

theorem bt_at {s : Tx} {i : Nat} (h : i < s.length) : N.bt s i = s[i].toNat := by
  unfold N.bt
  rw [List.getD_eq_getElem?_getD, List.getElem?_eq_getElem h]
  rfl
end Go.Proofs.YtmfhipjceeijmaaGreatDoor.G
