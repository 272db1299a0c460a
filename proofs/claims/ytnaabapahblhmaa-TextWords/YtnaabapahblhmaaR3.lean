/-
  The walk of the document's answer to layer 1 (package bucketlineref1): Quote.
-/
import Derived.Test.YtnaabapahblhmaaR2
namespace Go.Proofs.Ytnaabapahblhmaa
open Go.RowKit
theorem add_92 (l : List UInt8) : B l ++ (⟨#[92]⟩ : ByteArray) = B (l ++ [92]) := add_B l [92]
theorem add_34 (l : List UInt8) : B l ++ (⟨#[34]⟩ : ByteArray) = B (l ++ [34]) := add_B l [34]
theorem add_92n (l : List UInt8) : B l ++ (⟨#[92, 110]⟩ : ByteArray) = B (l ++ [92, 110]) := add_B l [92, 110]
theorem add_92x (l : List UInt8) : B l ++ (⟨#[92, 120]⟩ : ByteArray) = B (l ++ [92, 120]) := add_B l [92, 120]
attribute [local go_sem] ext_Bd ext_Bl ext_Bt toList_B add_B size_B get_Bt add_92 add_34 add_92n add_92x

theorem ext_mid2 (m : List UInt8) (a b : Nat) : (B m).extract a b = B ((m.drop a).take (b - a)) := by rw [ext_B, L_B]
theorem ext_one (m : List UInt8) (pos : Nat) (h : pos < m.length) : (B m).extract pos (pos + 1) = B [(m.drop pos).getD 0 0] := by
  rw [ext_mid2]
  have hne := T.drop_ne h
  match hd : m.drop pos, hne with
  | c :: r, _ => simp

theorem ext_hex (n : Nat) (h : n < 16) : (⟨#[48, 49, 50, 51, 52, 53, 54, 55, 56, 57, 97, 98, 99, 100, 101, 102]⟩ : ByteArray).extract n (n + 1) = B [T.hexD n] := by
  match n, h with
  | 0, _ | 1, _ | 2, _ | 3, _ | 4, _ | 5, _ | 6, _ | 7, _ | 8, _ | 9, _ | 10, _ | 11, _ | 12, _ | 13, _ | 14, _ | 15, _ => decide +kernel
  | n + 16, h => omega
theorem hex_cat (acc : List UInt8) (b : Nat) (h : b < 256) :
    Value.string (B (acc ++ [92, 120]) ++ (⟨#[48, 49, 50, 51, 52, 53, 54, 55, 56, 57, 97, 98, 99, 100, 101, 102]⟩ : ByteArray).extract (b / 16) (b / 16 + 1) ++ (⟨#[48, 49, 50, 51, 52, 53, 54, 55, 56, 57, 97, 98, 99, 100, 101, 102]⟩ : ByteArray).extract (b % 16) (b % 16 + 1)) =
      Value.string (B (acc ++ [92, 120, T.hexD (b / 16), T.hexD (b % 16)])) := by
  rw [ext_hex _ (by omega), ext_hex _ (by omega), add_B, add_B]
  simp

structure RQ (m : List UInt8) (w : World) (wr : World) (pos : Nat) (acc : List UInt8) : Prop where
  rel : T.QRel m pos acc
  le : pos ≤ m.length
  q : sQuiet w wr

set_option maxHeartbeats 1000000 in
theorem refQuote_l (m : List UInt8) (w : World) (hs : m.length ≤ 100000) :
    Calls Try.prog 20 #[.string (B m)] w fun e w' => e = .returned (.string (B (T.quoteL m))) ∧ sQuiet w w' := by
  go_enter Try.func20, Try.ntmps20
  go_wp2
  go_loopw [3, 4] (fun o a wr => ∃ (pos : Nat) (acc : List UInt8), o = .string (B acc) ∧ a = .int .i64 pos ∧ RQ m w wr pos acc) (fun _ a _ => m.length - (intOf a).toNat)
  case atStart => exact ⟨0, [34], rfl, rfl, T.QRel.start m, by omega, 0, rfl⟩
  case round =>
    obtain ⟨pos, acc, rfl, rfl, hg⟩ := hrel
    have hal := hg.rel.le
    have hle := hg.le
    obtain ⟨nq0, rfl⟩ := hg.q
    have HG := Lib.hid hg.rel; clear hg
    by_cases hp : pos < m.length
    · have hne : m.drop pos ≠ [] := T.drop_ne hp
      have hwd := T.drop_wid hp
      have hwp := T.wid_pos (m.drop pos)
      have hnb := T.num_bd (m.drop pos)
      have hdl : (m.drop pos).length ≤ 1000000 := by simp; omega
      have hdp : 0 < (m.drop pos).length := by simp; omega
      have HGO := Lib.hid (fun p h => HG.out.go (p := p) hne h)
      have HPQ := Lib.hid (fun h => T.piece_quote (m := m.drop pos) h)
      have HPL := Lib.hid (fun h => T.piece_line (m := m.drop pos) h)
      have HPH := Lib.hid (fun h1 h2 h3 => T.piece_hid (m := m.drop pos) h1 h2 h3)
      have HPA := Lib.hid (fun h1 h2 h3 => T.piece_as (m := m.drop pos) h1 h2 h3)
      have hx1 := ext_one m pos hp
      have hxw : (B m).extract pos (pos + T.wid (m.drop pos)) = B ((m.drop pos).take (T.wid (m.drop pos))) := by rw [ext_mid2, Nat.add_sub_cancel_left]
      have HNE := Lib.hid hne; clear hne
      go_wp2_with fail
      with_reducible refine (size_l (m.drop pos) _ hdl hdp).mono ?_
      rintro e w' ⟨rfl, rfl⟩
      unfold szRes
      have hbt : T.bt (m.drop pos) 0 = T.bt m pos := by rw [T.bt_drop]; rfl
      rw [hbt] at HPH
      generalize T.wid (m.drop pos) = wd at *
      generalize T.num (m.drop pos) = nm at *
      have hb8 := T.bt_lt m pos
      have HTL := Lib.hid (show ((m.drop pos).take wd).length ≤ 4 * wd from Nat.le_trans (List.length_take_le _ _) (by omega))
      generalize (m.drop pos).getD 0 0 = c0 at *
      generalize (m.drop pos).take wd = tk at *
      clear hbt
      by_cases c1 : nm = 34
      · have c1b : (nm == 34) = true := beq_iff_eq.2 c1
        have HR := Lib.hid (HGO.out _ (HPQ.out (.inl c1)))
        have HC := Lib.hid c1; clear c1
        go_wp2
        go_roundw
        case rel => exact ⟨pos + wd, _, by first | rfl | simp, by go_num, HR.out, hwd, nq0, rfl⟩
        case measure => simp [intOf]; omega
      have c1b : (nm == 34) = false := beq_eq_false_iff_ne.2 c1
      by_cases c2 : nm = 92
      · have c2b : (nm == 92) = true := beq_iff_eq.2 c2
        have HR := Lib.hid (HGO.out _ (HPQ.out (.inr c2)))
        have HC := Lib.hid c2; clear c1 c2
        go_wp2
        go_roundw
        case rel => exact ⟨pos + wd, _, by first | rfl | simp, by go_num, HR.out, hwd, nq0, rfl⟩
        case measure => simp [intOf]; omega
      have c2b : (nm == 92) = false := beq_eq_false_iff_ne.2 c2
      by_cases c3 : nm = 10
      · have c3b : (nm == 10) = true := beq_iff_eq.2 c3
        have HR := Lib.hid (HGO.out _ (HPL.out c3))
        have HC := Lib.hid c3; clear c1 c2 c3
        go_wp2
        go_roundw
        case rel => exact ⟨pos + wd, _, by first | rfl | simp, by go_num, HR.out, hwd, nq0, rfl⟩
        case measure => simp [intOf]; omega
      have c3b : (nm == 10) = false := beq_eq_false_iff_ne.2 c3
      by_cases c4 : nm < 32 ∨ nm = 127
      · have HR := Lib.hid (HGO.out _ (HPH.out (by omega) c3 c4))
        have HX := Lib.hid (hex_cat acc (T.bt m pos) hb8)
        by_cases c5 : nm < 32
        · clear c1 c2 c3 c4
          go_wp2
          go_quiet (fail)
          go_wp2
          go_roundw
          case rel => exact ⟨pos + wd, _, HX.out, by go_num, HR.out, hwd, _, rfl⟩
          case measure => simp [intOf]; omega
        · have c5b : (nm == 127) = true := beq_iff_eq.2 (by omega)
          have HC := Lib.hid c4
          clear c1 c2 c3 c4
          go_wp2
          go_quiet (fail)
          go_wp2
          go_roundw
          case rel => exact ⟨pos + wd, _, HX.out, by go_num, HR.out, hwd, _, rfl⟩
          case measure => simp [intOf]; omega
      · have HR := Lib.hid (HGO.out _ (HPA.out (by omega) c3 c4))
        have c5 : ¬ nm < 32 := by omega
        have c5b : (nm == 127) = false := beq_eq_false_iff_ne.2 (by omega)
        have htl := HTL.out
        clear c1 c2 c3 c4
        go_wp2
        go_roundw
        case rel => exact ⟨pos + wd, _, by first | rfl | simp, by go_num, HR.out, hwd, nq0, rfl⟩
        case measure => simp [intOf]; omega
    · have HS := Lib.hid (HG.out.done (by omega))
      go_wp2
      go_ret
      rw [HS.out]
      exact ⟨rfl, nq0, rfl⟩
end Go.Proofs.Ytnaabapahblhmaa
