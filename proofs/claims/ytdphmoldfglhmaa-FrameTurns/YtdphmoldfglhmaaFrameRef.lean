/-
  Walks of the document's answer to layer 4 (package bucketlineref4): Put, Take, Row, Scan.
-/
import Derived.Test.YtdphmoldfglhmaaFrameRow
import Derived.Test.YtdphmoldfglhmaaCrcRef
import Derived.Laws.AppendOwn
namespace Go.Proofs.Ytdphmoldfglhmaa
open Go.RowKit
attribute [local go_sem] ext_Bd ext_Bl ext_Bt toList_B add_B size_B get_Bt

set_option maxHeartbeats 1000000 in
set_option maxRecDepth 100000 in
theorem refPut_none (w : World) :
    Calls Try.prog 12 #[.string (B [])] w fun e w' => e = .returned (.tuple #[.string (B []), .int .i64 2]) ∧ w' = w := by
  go_enter Try.func12, Try.ntmps12
  go_wp2
  go_ret2
  exact ⟨rfl, rfl⟩
set_option maxHeartbeats 1000000 in
set_option maxRecDepth 100000 in
theorem refPut_long (p : List UInt8) (w : World) (h : 8000 < p.length) :
    Calls Try.prog 12 #[.string (B p)] w fun e w' => e = .returned (.tuple #[.string (B []), .int .i64 4]) ∧ w' = w := by
  have he := empty_ne (p := p) (by omega)
  have h0 : ((p.length : Int) == 0) = false := beq_eq_false_iff_ne.2 (by omega)
  go_enter Try.func12, Try.ntmps12
  go_wp2
  go_ret2
  exact ⟨rfl, rfl⟩

set_option maxHeartbeats 1000000 in
set_option maxRecDepth 100000 in
theorem refPut_ok (p : List UInt8) (w : World) (h : F.good p) :
    Calls Try.prog 12 #[.string (B p)] w fun e w' => e = .returned (.tuple #[.string (B (F.frame p)), .int .i64 0]) ∧ Below w.heap.size w w' := by
  have h1 := h.1
  have h2 := h.2
  clear h
  have he := empty_ne (p := p) h1
  have h0 : ((p.length : Int) == 0) = false := beq_eq_false_iff_ne.2 (by omega)
  have HS := Lib.hid (show C.upd 0 (N.fixL p.length ++ p) = F.sumOf p from rfl)
  have HF := Lib.hid (show F.frame p = N.fixL p.length ++ (N.fixL (F.sumOf p) ++ p) from rfl)
  have hsl := F.sumOf_lt p
  have hf1 := F.fixL_len p.length
  have hf2 := F.fixL_len (F.sumOf p)
  go_enter Try.func12, Try.ntmps12
  go_wp2_with fail
  refine (refFixed_l p.length _ (by omega)).mono ?_
  rintro e w1 ⟨rfl, hb1⟩
  generalize N.fixL p.length = q at *
  go_wp2_with fail
  refine (RefSum_l (q ++ p) w1 (by rw [List.length_append]; omega)).mono ?_
  rintro e w2 ⟨rfl, rfl⟩
  rw [HS.out]
  generalize F.sumOf p = s at *
  go_wp2_with fail
  refine (chain (refFixed_l s _ hsl) hb1).mono ?_
  rintro e w3 ⟨rfl, hb3⟩
  generalize N.fixL s = t at *
  go_wp2
  go_ret2
  rw [HF.out]
  exact ⟨ret_two (str_eq (by simp)) rfl, hb3⟩
theorem refPut_l (p : List UInt8) (w : World) :
    Calls Try.prog 12 #[.string (B p)] w fun e w' => e = .returned (.tuple #[.string (B (putS p)), .int .i64 (F.code p)]) ∧ Below w.heap.size w w' := by
  by_cases h0 : p.length = 0
  · obtain rfl : p = [] := List.length_eq_zero_iff.1 h0
    exact (refPut_none w).mono fun e w' ⟨a, b⟩ => ⟨a, by rw [b]; exact Below.refl _ _⟩
  · by_cases h8 : 8000 < p.length
    · rw [F.code_long h8, putS_bad (by rw [F.code_long h8]; omega)]
      exact (refPut_long p w h8).mono fun e w' ⟨a, b⟩ => ⟨a, by rw [b]; exact Below.refl _ _⟩
    · have hg : F.good p := ⟨by omega, by omega⟩
      rw [F.code_good hg, putS_ok hg]
      exact refPut_ok p w hg
theorem refPut_at (p s : List UInt8) (c : Nat) (w : World) (HS : Hid (putS p = s)) (HC : Hid (F.code p = c)) :
    Calls Try.prog 12 #[.string (B p)] w fun e w' => e = .returned (.tuple #[.string (B s), .int .i64 c]) ∧ Below w.heap.size w w' := by
  rw [← HS.out, ← HC.out]; exact refPut_l p w

set_option maxHeartbeats 1000000 in
set_option maxRecDepth 100000 in
theorem refTake_l (l : List UInt8) (w : World) (hl : l.length ≤ 100000000) :
    Calls Try.prog 16 #[.string (B l)] w fun e w' => e = .returned (tkRes (F.take l)) ∧ Below w.heap.size w w' := by
  by_cases h8 : l.length < 8
  · rw [F.take_few h8, tkRes_bad]
    go_enter Try.func16, Try.ntmps16
    go_wp2
    go_ret3
    exact ⟨rfl, Below.refl _ _⟩
  have hd : ¬ (l.drop 4).length < 4 := by rw [List.length_drop]; omega
  have hd2 : (l.drop 4).length ≤ 100000000 := by rw [List.length_drop]; omega
  have H8 := Lib.hid (show (l.drop 4).drop 4 = l.drop 8 by rw [List.drop_drop])
  have hv : N.fixV l < 4294967296 := N.fixV_lt l
  have hdl : (l.drop 8).length = l.length - 8 := List.length_drop
  by_cases h0 : N.fixV l = 0
  · rw [F.take_zero h8 h0, tkRes_bad]
    go_enter Try.func16, Try.ntmps16
    go_wp2_with fail
    refine (refTakeFixed_l l w hl).mono ?_
    rintro e w1 ⟨rfl, hq1⟩
    have hb1 := below_quiet (Below.refl w.heap.size w) hq1
    clear hq1
    rw [txRes_ok (by omega), h0]
    go_wp2_with fail
    refine (refTakeFixed_l (l.drop 4) _ hd2).mono ?_
    rintro e w2 ⟨rfl, hq2⟩
    have hb2 := below_quiet hb1 hq2
    clear hq2
    rw [txRes_ok hd, H8.out]
    go_wp2
    go_ret3
    exact ⟨rfl, hb2⟩
  have h0b : ((N.fixV l : Nat) : Int) ≠ 0 := by omega
  have h0c : (((N.fixV l : Nat) : Int) == 0) = false := beq_eq_false_iff_ne.2 h0b
  by_cases h1 : 8000 < N.fixV l
  · rw [F.take_long h8 h1, tkRes_bad]
    clear h0 h0b hdl
    go_enter Try.func16, Try.ntmps16
    go_wp2_with fail
    refine (refTakeFixed_l l w hl).mono ?_
    rintro e w1 ⟨rfl, hq1⟩
    have hb1 := below_quiet (Below.refl w.heap.size w) hq1
    clear hq1
    rw [txRes_ok (by omega)]
    generalize N.fixV l = n at *
    go_wp2_with fail
    refine (refTakeFixed_l (l.drop 4) _ hd2).mono ?_
    rintro e w2 ⟨rfl, hq2⟩
    have hb2 := below_quiet hb1 hq2
    clear hq2
    rw [txRes_ok hd, H8.out]
    go_wp2
    go_ret3
    exact ⟨rfl, hb2⟩
  by_cases h2 : l.length - 8 < N.fixV l
  · rw [F.take_short h8 h0 h1 h2, tkRes_bad]
    rw [← hdl] at h2
    clear h0 h0b hdl
    go_enter Try.func16, Try.ntmps16
    go_wp2_with fail
    refine (refTakeFixed_l l w hl).mono ?_
    rintro e w1 ⟨rfl, hq1⟩
    have hb1 := below_quiet (Below.refl w.heap.size w) hq1
    clear hq1
    rw [txRes_ok (by omega)]
    generalize N.fixV l = n at *
    go_wp2_with fail
    refine (refTakeFixed_l (l.drop 4) _ hd2).mono ?_
    rintro e w2 ⟨rfl, hq2⟩
    have hb2 := below_quiet hb1 hq2
    clear hq2
    rw [txRes_ok hd, H8.out]
    clear H8
    generalize l.drop 8 = d at *
    go_wp2
    go_ret3
    exact ⟨rfl, hb2⟩
  have h4 : 4 ≤ (B l).size := by rw [size_B]; omega
  have h4l : 4 ≤ l.length := by omega
  by_cases h3 : C.upd 0 (l.take 4 ++ (l.drop 8).take (N.fixV l)) = N.fixV (l.drop 4)
  · rw [F.take_ok h8 h0 h1 h2 h3, tkRes_ok]
    obtain ⟨r1, HR1⟩ : ∃ r1, Hid ((l.drop 8).take (N.fixV l) = r1) := ⟨_, Lib.hid rfl⟩
    obtain ⟨r2, HR2⟩ : ∃ r2, Hid ((l.drop 8).drop (N.fixV l) = r2) := ⟨_, Lib.hid rfl⟩
    rw [HR1.out, HR2.out]
    rw [← hdl] at h2
    have hsl : N.fixV (l.drop 4) < 4294967296 := N.fixV_lt _
    clear h0 h0b
    go_enter Try.func16, Try.ntmps16
    go_wp2_with fail
    refine (refTakeFixed_l l w hl).mono ?_
    rintro e w1 ⟨rfl, hq1⟩
    have hb1 := below_quiet (Below.refl w.heap.size w) hq1
    clear hq1
    rw [txRes_ok (by omega)]
    have H3 := Lib.hid h3
    clear h3
    go_wp2_with fail
    refine (refTakeFixed_l (l.drop 4) _ hd2).mono ?_
    rintro e w2 ⟨rfl, hq2⟩
    have hb2 := below_quiet hb1 hq2
    clear hq2
    rw [txRes_ok hd, H8.out]
    clear H8
    generalize N.fixV (l.drop 4) = s at *
    generalize N.fixV l = n at *
    have hdl2 : (l.drop 8).length ≤ 100000000 := by omega
    clear hdl
    generalize l.drop 8 = d at *
    have hnb : n ≤ (B d).size := by rw [size_B]; omega
    have hni : (n : Int) ≤ d.length := by omega
    have htl : (l.take 4 ++ d.take n).length ≤ 100000000 := by rw [List.length_append, List.length_take, List.length_take]; omega
    go_wp2_with fail
    refine (RefSum_l (l.take 4 ++ d.take n) _ htl).mono ?_
    rintro e w3 ⟨rfl, rfl⟩
    rw [H3.out]
    go_wp2
    go_quiet (fail)
    go_wp2
    go_ret3
    rw [← HR1.out, ← HR2.out]
    exact ⟨rfl, below_quiet hb2 ⟨_, rfl⟩⟩
  · rw [F.take_sum h8 h0 h1 h2 h3, tkRes_bad]
    rw [← hdl] at h2
    have hsl : N.fixV (l.drop 4) < 4294967296 := N.fixV_lt _
    clear h0 h0b
    go_enter Try.func16, Try.ntmps16
    go_wp2_with fail
    refine (refTakeFixed_l l w hl).mono ?_
    rintro e w1 ⟨rfl, hq1⟩
    have hb1 := below_quiet (Below.refl w.heap.size w) hq1
    clear hq1
    rw [txRes_ok (by omega)]
    go_wp2_with fail
    refine (refTakeFixed_l (l.drop 4) _ hd2).mono ?_
    rintro e w2 ⟨rfl, hq2⟩
    have hb2 := below_quiet hb1 hq2
    clear hq2
    rw [txRes_ok hd, H8.out]
    clear H8
    obtain ⟨x, HX⟩ : ∃ x, Hid (C.upd 0 (l.take 4 ++ (l.drop 8).take (N.fixV l)) = x) := ⟨_, Lib.hid rfl⟩
    rw [HX.out] at h3
    generalize N.fixV (l.drop 4) = s at *
    have hxs : ((x : Int) == (s : Int)) = false := beq_eq_false_iff_ne.2 (by omega)
    have hxt : ((x : Int) != (s : Int)) = true := by rw [bne, hxs]; rfl
    clear h3
    generalize N.fixV l = n at *
    have hdl2 : (l.drop 8).length ≤ 100000000 := by omega
    clear hdl
    generalize l.drop 8 = d at *
    have hnb : n ≤ (B d).size := by rw [size_B]; omega
    have hni : (n : Int) ≤ d.length := by omega
    have htl : (l.take 4 ++ d.take n).length ≤ 100000000 := by rw [List.length_append, List.length_take, List.length_take]; omega
    go_wp2_with fail
    refine (RefSum_l (l.take 4 ++ d.take n) _ htl).mono ?_
    rintro e w3 ⟨rfl, rfl⟩
    rw [HX.out]
    go_wp2
    go_ret3
    exact ⟨rfl, hb2⟩
theorem refTake_at (l : List UInt8) (v : Value) (w : World) (hl : l.length ≤ 100000000) (H : Hid (tkRes (F.take l) = v)) :
    Calls Try.prog 16 #[.string (B l)] w fun e w' => e = .returned v ∧ Below w.heap.size w w' := by
  rw [← H.out]; exact refTake_l l w hl
end Go.Proofs.Ytdphmoldfglhmaa
