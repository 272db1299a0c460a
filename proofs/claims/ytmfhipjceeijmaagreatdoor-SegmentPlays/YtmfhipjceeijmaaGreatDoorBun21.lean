/-
  Own texts, joined: FrameRow FrameRef
-/
import Derived.Test.YtmfhipjceeijmaaGreatDoorBun13
import Derived.Test.YtmfhipjceeijmaaGreatDoorBun17
import Derived.Test.YtmfhipjceeijmaaGreatDoorBun9
import Derived.Laws.AppendOwn

/-
  The walk of Row of package frame.
-/
namespace Go.Proofs.YtmfhipjceeijmaaGreatDoor
open Go.RowKit
attribute [local go_sem] ext_Bd ext_Bl ext_Bt toList_B add_B size_B get_Bt

def rowS (ls : List (List UInt8)) : List UInt8 := if F.codes ls = 0 then F.frames ls else []
theorem rowS_ok {ls : List (List UInt8)} (h : F.codes ls = 0) : rowS ls = F.frames ls := by unfold rowS; rw [if_pos h]
theorem rowS_bad {ls : List (List UInt8)} (h : F.codes ls ≠ 0) : rowS ls = [] := by unfold rowS; rw [if_neg h]
theorem frames_le : ∀ {l : List (List UInt8)}, (∀ p ∈ l, F.good p) → (F.frames l).length ≤ 8008 * l.length
  | [], _ => by simp [F.frames]
  | q :: r, h => by
    have h1 := (h q (by simp)).2
    have h2 := frames_le (l := r) fun p hp => h p (by simp [hp])
    rw [F.frames_cons, List.length_append, F.frame_len, List.length_cons]
    omega

structure RowAt (ls : List (List UInt8)) (w wr : World) (k : Nat) : Prop where
  bd : Lib.IsBuilder 155 5 w.heap.size w.heap.size (Lib.byteCells (F.frames (ls.take k))) wr
  bel : Below w.heap.size w wr
  good : ∀ p ∈ ls.take k, F.good p
theorem RowAt.start (ls : List (List UInt8)) (w : World) : RowAt ls w (w.alloc (.cells #[.pointer none, .slice none 0 0] 155)) 0 :=
  ⟨Lib.fresh_isBuilder _ _ w, (Below.refl _ w).alloc (Nat.le_refl _) _, by simp⟩
theorem RowAt.len {ls : List (List UInt8)} {w wr : World} {k : Nat} (h : RowAt ls w wr k) (hk : k ≤ 100000000) : (F.frames (ls.take k)).length ≤ 800800000000 := by
  have h1 := frames_le h.good
  have h2 : (ls.take k).length ≤ k := by rw [List.length_take]; omega
  omega
theorem good_step {ls : List (List UInt8)} {k : Nat} (hk : k < ls.length) (h : ∀ p ∈ ls.take k, F.good p) (hg : F.good ls[k]) : ∀ p ∈ ls.take (k + 1), F.good p := by
  intro p hp
  rw [List.take_succ_eq_append_getElem hk, List.mem_append] at hp
  rcases hp with hp | hp
  · exact h p hp
  · simp at hp; subst hp; exact hg

set_option maxHeartbeats 1000000 in
set_option maxRecDepth 100000 in
theorem FRow_l (ls : List (List UInt8)) (va : Value) (w : World) (ha : Reads w va (strCells ls)) (hn : ls.length ≤ 100000000) :
    Calls Tryz.prog 85 #[va] w fun e w' => e = .returned (.tuple #[.string (B (rowS ls)), .int .i64 (F.codes ls)]) ∧ Below w.heap.size w w' := by
  obtain ⟨a, ca, rfl, hxa⟩ := ha
  simp only [strCells_len] at *
  have HXA := Lib.hid hxa; clear hxa
  obtain ⟨rs, HRS⟩ : ∃ rs, Hid (rowS ls = rs) := ⟨_, Lib.hid rfl⟩
  obtain ⟨rc, HRC⟩ : ∃ rc, Hid (F.codes ls = rc) := ⟨_, Lib.hid rfl⟩
  rw [HRS.out, HRC.out]
  go_enter Tryz.func85, Tryz.ntmps85
  go_wp2
  go_loopw [11] (fun i wr => ∃ k : Nat, i = .int .i64 k ∧ k ≤ ls.length ∧ RowAt ls w wr k) (fun i _ => ls.length - (intOf i).toNat)
  case atStart => exact ⟨0, rfl, Nat.zero_le _, RowAt.start ls w⟩
  case round =>
    obtain ⟨k, rfl, hk, hrel⟩ := hrel
    have hbel := hrel.bel
    have HREL := Lib.hid hrel
    clear hrel
    by_cases hlt : k < ls.length
    · obtain ⟨b1, o1, rfl, hc1⟩ := HXA.out k hlt
      have hcell : wr.cell? ⟨b1, o1 + k, none⟩ = some (.string (B ls[k])) := by
        have : w.cell? ⟨b1, o1 + k, none⟩ = some (.string (B ls[k])) := by rw [hc1]; simp [strCells, hlt]
        rw [hbel.cell (World.block_lt_of_cell? w _ this)]; exact this
      have hi1 : (k : Int) < (ls.length : Int) := by omega
      clear hc1
      by_cases hg : F.good ls[k]
      · have HG := Lib.hid (good_step hlt HREL.out.good hg)
        have HF := Lib.hid (F.frames_step hlt)
        have hxl := hg.2
        have hfl := F.frame_len ls[k]
        have hacc := HREL.out.len (by omega)
        have HGX := Lib.hid hg; clear hg
        generalize ls[k] = x at *
        go_wp2_with fail
        refine (FPut_ok x wr HGX.out).mono ?_
        rintro e w1 ⟨rfl, hb1⟩
        have HB1 := Lib.hid (builder_below HREL.out.bd hb1)
        have hbb := hbel.trans (hb1.mono hbel.size)
        have hsz := hbb.size
        clear hb1 hbel hcell
        generalize F.frame x = f at *
        go_wp2_with fail
        refine (Tryz.builderWrite w.heap.size w.heap.size _ (B f) w1 HB1.out (by rw [Lib.byteCells_length, size_B]; omega) hsz).mono ?_
        rintro e w2 ⟨rfl, hbd2, hb2⟩
        have HR2 : Hid (RowAt ls w w2 (k + 1)) := Lib.hid ⟨.inr (by rw [HF.out, Lib.byteCells_append, ← str_B f]; exact hbd2), hbb.trans hb2, HG.out⟩
        clear hbd2 hb2
        go_wp2
        go_roundw
        case rel => exact ⟨k + 1, by go_num, by omega, HR2.out⟩
        case measure => simp [intOf]; omega
      · have hne : F.code ls[k] ≠ 0 := fun h => hg (F.code_zero h)
        have HC := Lib.hid (F.codes_at hlt HREL.out.good hne)
        have HP := Lib.hid (putS_bad hne)
        have HCC := Lib.hid (show F.code ls[k] = rc by rw [← HC.out]; exact HRC.out)
        have HE := Lib.hid (show rs = [] by rw [← HRS.out]; exact rowS_bad (by rw [HC.out]; exact hne))
        have hrc : ((rc : Int) == 0) = false := beq_eq_false_iff_ne.2 (by have := HCC.out; omega)
        clear hg hne
        generalize ls[k] = x at *
        go_wp2_with fail
        refine (FPut_at x [] rc wr HP HCC).mono ?_
        rintro e w1 ⟨rfl, hb1⟩
        have hbb := hbel.trans (hb1.mono hbel.size)
        clear hb1 hbel hcell
        go_wp2
        go_ret2
        rw [HE.out]
        exact ⟨rfl, hbb⟩
    · have HT := Lib.hid (show ls.take k = ls from List.take_of_length_le (by omega))
      have hbd := HREL.out.bd
      have hgd := HREL.out.good
      rw [HT.out] at hbd hgd
      have HZ := Lib.hid (F.codes_good hgd)
      have HE := Lib.hid (show rs = F.frames ls by rw [← HRS.out]; exact rowS_ok HZ.out)
      have HEC := Lib.hid (show rc = 0 by rw [← HRC.out]; exact HZ.out)
      have HBD := Lib.hid hbd
      have hsz := hbel.size
      clear hbd hgd
      go_wp2_with fail
      refine (Tryz.builderString w.heap.size w.heap.size _ wr HBD.out hsz).mono ?_
      rintro e w2 ⟨rfl, hb2⟩
      have hbb := hbel.trans hb2
      clear hb2
      go_wp2
      go_ret2
      rw [HE.out, HEC.out]
      exact ⟨rfl, hbb⟩
theorem FRow_at (ls : List (List UInt8)) (s : List UInt8) (c : Nat) (va : Value) (w : World) (ha : Reads w va (strCells ls)) (hn : ls.length ≤ 100000000) (HS : Hid (rowS ls = s)) (HC : Hid (F.codes ls = c)) :
    Calls Tryz.prog 85 #[va] w fun e w' => e = .returned (.tuple #[.string (B s), .int .i64 c]) ∧ Below w.heap.size w w' := by
  rw [← HS.out, ← HC.out]; exact FRow_l ls va w ha hn
end Go.Proofs.YtmfhipjceeijmaaGreatDoor

/-
  Walks of the document's answer to layer 4 (package bucketlineref4): Put, Take, Row, Scan.
-/
namespace Go.Proofs.YtmfhipjceeijmaaGreatDoor
open Go.RowKit
attribute [local go_sem] ext_Bd ext_Bl ext_Bt toList_B add_B size_B get_Bt

set_option maxHeartbeats 1000000 in
set_option maxRecDepth 100000 in
theorem refFPut_none (w : World) :
    Calls Tryz.prog 114 #[.string (B [])] w fun e w' => e = .returned (.tuple #[.string (B []), .int .i64 2]) ∧ w' = w := by
  go_enter Tryz.func114, Tryz.ntmps114
  go_wp2
  go_ret2
  exact ⟨rfl, rfl⟩
set_option maxHeartbeats 1000000 in
set_option maxRecDepth 100000 in
theorem refFPut_long (p : List UInt8) (w : World) (h : 8000 < p.length) :
    Calls Tryz.prog 114 #[.string (B p)] w fun e w' => e = .returned (.tuple #[.string (B []), .int .i64 4]) ∧ w' = w := by
  have he := empty_ne (p := p) (by omega)
  have h0 : ((p.length : Int) == 0) = false := beq_eq_false_iff_ne.2 (by omega)
  go_enter Tryz.func114, Tryz.ntmps114
  go_wp2
  go_ret2
  exact ⟨rfl, rfl⟩

set_option maxHeartbeats 1000000 in
set_option maxRecDepth 100000 in
theorem refFPut_ok (p : List UInt8) (w : World) (h : F.good p) :
    Calls Tryz.prog 114 #[.string (B p)] w fun e w' => e = .returned (.tuple #[.string (B (F.frame p)), .int .i64 0]) ∧ Below w.heap.size w w' := by
  have h1 := h.1
  have h2 := h.2
  clear h
  have he := empty_ne (p := p) h1
  have h0 : ((p.length : Int) == 0) = false := beq_eq_false_iff_ne.2 (by omega)
  have HS := Lib.hid (show C.upd 0 (N.fixL p.length ++ p) = F.sumOf p from rfl)
  have HF := Lib.hid (show F.frame p = N.fixL p.length ++ (N.fixL (F.sumOf p) ++ p) from rfl)
  have hsl := F.sumOf_lt p
  have hf1 := F.fixL_len p.length
  have hf2 := F.fixL_len (F.sumOf p)
  go_enter Tryz.func114, Tryz.ntmps114
  go_wp2_with fail
  refine (refFixed_l p.length _ (by omega)).mono ?_
  rintro e w1 ⟨rfl, hb1⟩
  generalize N.fixL p.length = q at *
  go_wp2_with fail
  refine (RefSum_l (q ++ p) w1 (by rw [List.length_append]; omega)).mono ?_
  rintro e w2 ⟨rfl, rfl⟩
  rw [HS.out]
  generalize F.sumOf p = s at *
  go_wp2_with fail
  refine (chain (refFixed_l s _ hsl) hb1).mono ?_
  rintro e w3 ⟨rfl, hb3⟩
  generalize N.fixL s = t at *
  go_wp2
  go_ret2
  rw [HF.out]
  exact ⟨ret_two (str_eq (by simp)) rfl, hb3⟩
theorem refFPut_l (p : List UInt8) (w : World) :
    Calls Tryz.prog 114 #[.string (B p)] w fun e w' => e = .returned (.tuple #[.string (B (putS p)), .int .i64 (F.code p)]) ∧ Below w.heap.size w w' := by
  by_cases h0 : p.length = 0
  · obtain rfl : p = [] := List.length_eq_zero_iff.1 h0
    exact (refFPut_none w).mono fun e w' ⟨a, b⟩ => ⟨a, by rw [b]; exact Below.refl _ _⟩
  · by_cases h8 : 8000 < p.length
    · rw [F.code_long h8, putS_bad (by rw [F.code_long h8]; omega)]
      exact (refFPut_long p w h8).mono fun e w' ⟨a, b⟩ => ⟨a, by rw [b]; exact Below.refl _ _⟩
    · have hg : F.good p := ⟨by omega, by omega⟩
      rw [F.code_good hg, putS_ok hg]
      exact refFPut_ok p w hg
theorem refFPut_at (p s : List UInt8) (c : Nat) (w : World) (HS : Hid (putS p = s)) (HC : Hid (F.code p = c)) :
    Calls Tryz.prog 114 #[.string (B p)] w fun e w' => e = .returned (.tuple #[.string (B s), .int .i64 c]) ∧ Below w.heap.size w w' := by
  rw [← HS.out, ← HC.out]; exact refFPut_l p w

set_option maxHeartbeats 1000000 in
set_option maxRecDepth 100000 in
theorem refFTake_l (l : List UInt8) (w : World) (hl : l.length ≤ 100000000) :
    Calls Tryz.prog 77 #[.string (B l)] w fun e w' => e = .returned (ftRes (F.take l)) ∧ Below w.heap.size w w' := by
  by_cases h8 : l.length < 8
  · rw [F.take_few h8, ftRes_bad]
    go_enter Tryz.func77, Tryz.ntmps77
    go_wp2
    go_ret3
    exact ⟨rfl, Below.refl _ _⟩
  have hd : ¬ (l.drop 4).length < 4 := by rw [List.length_drop]; omega
  have hd2 : (l.drop 4).length ≤ 100000000 := by rw [List.length_drop]; omega
  have H8 := Lib.hid (show (l.drop 4).drop 4 = l.drop 8 by rw [List.drop_drop])
  have hv : N.fixV l < 4294967296 := N.fixV_lt l
  have hdl : (l.drop 8).length = l.length - 8 := List.length_drop
  by_cases h0 : N.fixV l = 0
  · rw [F.take_zero h8 h0, ftRes_bad]
    go_enter Tryz.func77, Tryz.ntmps77
    go_wp2_with fail
    refine (refTakeFixed_l l w hl).mono ?_
    rintro e w1 ⟨rfl, hq1⟩
    have hb1 := below_quiet (Below.refl w.heap.size w) hq1
    clear hq1
    rw [txRes_ok (by omega), h0]
    go_wp2_with fail
    refine (refTakeFixed_l (l.drop 4) _ hd2).mono ?_
    rintro e w2 ⟨rfl, hq2⟩
    have hb2 := below_quiet hb1 hq2
    clear hq2
    rw [txRes_ok hd, H8.out]
    go_wp2
    go_ret3
    exact ⟨rfl, hb2⟩
  have h0b : ((N.fixV l : Nat) : Int) ≠ 0 := by omega
  have h0c : (((N.fixV l : Nat) : Int) == 0) = false := beq_eq_false_iff_ne.2 h0b
  by_cases h1 : 8000 < N.fixV l
  · rw [F.take_long h8 h1, ftRes_bad]
    clear h0 h0b hdl
    go_enter Tryz.func77, Tryz.ntmps77
    go_wp2_with fail
    refine (refTakeFixed_l l w hl).mono ?_
    rintro e w1 ⟨rfl, hq1⟩
    have hb1 := below_quiet (Below.refl w.heap.size w) hq1
    clear hq1
    rw [txRes_ok (by omega)]
    generalize N.fixV l = n at *
    go_wp2_with fail
    refine (refTakeFixed_l (l.drop 4) _ hd2).mono ?_
    rintro e w2 ⟨rfl, hq2⟩
    have hb2 := below_quiet hb1 hq2
    clear hq2
    rw [txRes_ok hd, H8.out]
    go_wp2
    go_ret3
    exact ⟨rfl, hb2⟩
  by_cases h2 : l.length - 8 < N.fixV l
  · rw [F.take_short h8 h0 h1 h2, ftRes_bad]
    rw [← hdl] at h2
    clear h0 h0b hdl
    go_enter Tryz.func77, Tryz.ntmps77
    go_wp2_with fail
    refine (refTakeFixed_l l w hl).mono ?_
    rintro e w1 ⟨rfl, hq1⟩
    have hb1 := below_quiet (Below.refl w.heap.size w) hq1
    clear hq1
    rw [txRes_ok (by omega)]
    generalize N.fixV l = n at *
    go_wp2_with fail
    refine (refTakeFixed_l (l.drop 4) _ hd2).mono ?_
    rintro e w2 ⟨rfl, hq2⟩
    have hb2 := below_quiet hb1 hq2
    clear hq2
    rw [txRes_ok hd, H8.out]
    clear H8
    generalize l.drop 8 = d at *
    go_wp2
    go_ret3
    exact ⟨rfl, hb2⟩
  have h4 : 4 ≤ (B l).size := by rw [size_B]; omega
  have h4l : 4 ≤ l.length := by omega
  by_cases h3 : C.upd 0 (l.take 4 ++ (l.drop 8).take (N.fixV l)) = N.fixV (l.drop 4)
  · rw [F.take_ok h8 h0 h1 h2 h3, ftRes_ok]
    obtain ⟨r1, HR1⟩ : ∃ r1, Hid ((l.drop 8).take (N.fixV l) = r1) := ⟨_, Lib.hid rfl⟩
    obtain ⟨r2, HR2⟩ : ∃ r2, Hid ((l.drop 8).drop (N.fixV l) = r2) := ⟨_, Lib.hid rfl⟩
    rw [HR1.out, HR2.out]
    rw [← hdl] at h2
    have hsl : N.fixV (l.drop 4) < 4294967296 := N.fixV_lt _
    clear h0 h0b
    go_enter Tryz.func77, Tryz.ntmps77
    go_wp2_with fail
    refine (refTakeFixed_l l w hl).mono ?_
    rintro e w1 ⟨rfl, hq1⟩
    have hb1 := below_quiet (Below.refl w.heap.size w) hq1
    clear hq1
    rw [txRes_ok (by omega)]
    have H3 := Lib.hid h3
    clear h3
    go_wp2_with fail
    refine (refTakeFixed_l (l.drop 4) _ hd2).mono ?_
    rintro e w2 ⟨rfl, hq2⟩
    have hb2 := below_quiet hb1 hq2
    clear hq2
    rw [txRes_ok hd, H8.out]
    clear H8
    generalize N.fixV (l.drop 4) = s at *
    generalize N.fixV l = n at *
    have hdl2 : (l.drop 8).length ≤ 100000000 := by omega
    clear hdl
    generalize l.drop 8 = d at *
    have hnb : n ≤ (B d).size := by rw [size_B]; omega
    have hni : (n : Int) ≤ d.length := by omega
    have htl : (l.take 4 ++ d.take n).length ≤ 100000000 := by rw [List.length_append, List.length_take, List.length_take]; omega
    go_wp2_with fail
    refine (RefSum_l (l.take 4 ++ d.take n) _ htl).mono ?_
    rintro e w3 ⟨rfl, rfl⟩
    rw [H3.out]
    go_wp2
    go_quiet (fail)
    go_wp2
    go_ret3
    rw [← HR1.out, ← HR2.out]
    exact ⟨rfl, below_quiet hb2 ⟨_, rfl⟩⟩
  · rw [F.take_sum h8 h0 h1 h2 h3, ftRes_bad]
    rw [← hdl] at h2
    have hsl : N.fixV (l.drop 4) < 4294967296 := N.fixV_lt _
    clear h0 h0b
    go_enter Tryz.func77, Tryz.ntmps77
    go_wp2_with fail
    refine (refTakeFixed_l l w hl).mono ?_
    rintro e w1 ⟨rfl, hq1⟩
    have hb1 := below_quiet (Below.refl w.heap.size w) hq1
    clear hq1
    rw [txRes_ok (by omega)]
    go_wp2_with fail
    refine (refTakeFixed_l (l.drop 4) _ hd2).mono ?_
    rintro e w2 ⟨rfl, hq2⟩
    have hb2 := below_quiet hb1 hq2
    clear hq2
    rw [txRes_ok hd, H8.out]
    clear H8
    obtain ⟨x, HX⟩ : ∃ x, Hid (C.upd 0 (l.take 4 ++ (l.drop 8).take (N.fixV l)) = x) := ⟨_, Lib.hid rfl⟩
    rw [HX.out] at h3
    generalize N.fixV (l.drop 4) = s at *
    have hxs : ((x : Int) == (s : Int)) = false := beq_eq_false_iff_ne.2 (by omega)
    have hxt : ((x : Int) != (s : Int)) = true := by rw [bne, hxs]; rfl
    clear h3
    generalize N.fixV l = n at *
    have hdl2 : (l.drop 8).length ≤ 100000000 := by omega
    clear hdl
    generalize l.drop 8 = d at *
    have hnb : n ≤ (B d).size := by rw [size_B]; omega
    have hni : (n : Int) ≤ d.length := by omega
    have htl : (l.take 4 ++ d.take n).length ≤ 100000000 := by rw [List.length_append, List.length_take, List.length_take]; omega
    go_wp2_with fail
    refine (RefSum_l (l.take 4 ++ d.take n) _ htl).mono ?_
    rintro e w3 ⟨rfl, rfl⟩
    rw [HX.out]
    go_wp2
    go_ret3
    exact ⟨rfl, hb2⟩
theorem refFTake_at (l : List UInt8) (v : Value) (w : World) (hl : l.length ≤ 100000000) (H : Hid (ftRes (F.take l) = v)) :
    Calls Tryz.prog 77 #[.string (B l)] w fun e w' => e = .returned v ∧ Below w.heap.size w w' := by
  rw [← H.out]; exact refFTake_l l w hl
end Go.Proofs.YtmfhipjceeijmaaGreatDoor
