/-
  The walk of the document's answer to layer 1 (package bucketlineref1): Words.
-/
import Derived.Test.YtnaabapahblhmaaR7
namespace Go.Proofs.Ytnaabapahblhmaa
open Go.RowKit
attribute [local go_sem] ext_Bd ext_Bl ext_Bt toList_B add_B size_B get_Bt

theorem words_gap {c : UInt8} {r : List UInt8} (h : T.gapB c = true) : wordsL (c :: r) = wordsL r := by
  unfold wordsL
  have : strip (c :: r) = strip r := by simp [strip, T.gap, h]
  rw [this]
theorem gap_zero {m : List UInt8} {pos : Nat} (hp : pos < m.length) (h : T.gapB (m.getD pos 0) = false) : T.gap (m.drop pos) = 0 := by
  have e : m.getD pos 0 = m[pos] := by simp [List.getD_eq_getElem?_getD, hp]
  rw [e] at h
  unfold T.gap
  rw [List.drop_eq_getElem_cons hp, List.takeWhile_cons_of_neg (by simp [h])]
  rfl
theorem words_fw {l t : List UInt8} {n : Nat} (hne : l ≠ []) (hg : T.gap l = 0) (h : fwL l = some (t, n)) : wordsL l = (wordsL (l.drop n)).map (t :: ·) := by
  rw [wordsL, strip_of hg, wordsW_cons hne hg h]; rfl
theorem words_fw_none {l : List UInt8} (hne : l ≠ []) (hg : T.gap l = 0) (h : fwL l = none) : wordsL l = none := by
  rw [wordsL, strip_of hg, wordsW_bad hne h]

structure RwRel (m : List UInt8) (pos : Nat) (acc : List (List UInt8)) : Prop where
  cut : wordsL m = (wordsL (m.drop pos)).map (acc ++ ·)
  le : acc.length ≤ pos
theorem RwRel.start (m : List UInt8) : RwRel m 0 [] := ⟨by cases h : wordsL m <;> simp [h], by simp⟩
theorem RwRel.gap {m : List UInt8} {pos : Nat} {acc : List (List UInt8)} (h : RwRel m pos acc) (hp : pos < m.length) (hg : T.gapB (m.getD pos 0) = true) : RwRel m (pos + 1) acc := by
  refine ⟨?_, by have := h.le; omega⟩
  have e : m.getD pos 0 = m[pos] := by simp [List.getD_eq_getElem?_getD, hp]
  rw [e] at hg
  rw [h.cut, List.drop_eq_getElem_cons hp, words_gap hg]
theorem RwRel.word {m t : List UInt8} {pos n : Nat} {acc : List (List UInt8)} (h : RwRel m pos acc) (hp : pos < m.length) (hg : T.gapB (m.getD pos 0) = false) (hf : fwL (m.drop pos) = some (t, n)) : RwRel m (pos + n) (acc ++ [t]) ∧ 1 ≤ n ∧ pos + n ≤ m.length := by
  have hne := T.drop_ne hp
  have hg0 := gap_zero hp hg
  have hb := fw_bd hne hg0 hf
  have hb2 : n ≤ m.length - pos := by simpa using hb.2
  refine ⟨⟨?_, by have := h.le; simp; omega⟩, hb.1, by omega⟩
  rw [h.cut, words_fw hne hg0 hf, Option.map_map, List.drop_drop]
  congr 1; funext x; simp
theorem RwRel.bad {m : List UInt8} {pos : Nat} {acc : List (List UInt8)} (h : RwRel m pos acc) (hp : pos < m.length) (hg : T.gapB (m.getD pos 0) = false) (hf : fwL (m.drop pos) = none) : wordsL m = none := by
  rw [h.cut, words_fw_none (T.drop_ne hp) (gap_zero hp hg) hf]; rfl
theorem RwRel.done {m : List UInt8} {pos : Nat} {acc : List (List UInt8)} (h : RwRel m pos acc) (hp : m.length ≤ pos) : wordsL m = some acc := by
  rw [h.cut, List.drop_of_length_le hp]
  simp [wordsL, strip, T.gap, wordsW_nil]

theorem fw_quote {m : List UInt8} {pos : Nat} (h : T.bt m pos = 34) : fwL (m.drop pos) = fqL (m.drop pos) := by
  unfold fwL
  have : (m.drop pos).getD 0 0 = 34 := by rw [getD_drop]; exact (T.u8_eq (n := 34) (by decide)).2 h
  rw [if_pos this]
theorem fw_plain {m : List UInt8} {pos : Nat} (h : T.bt m pos ≠ 34) : fwL (m.drop pos) = (T.plainLen (m.drop pos)).map fun n => ((m.drop pos).take n, n) := by
  unfold fwL
  have : ¬ (m.drop pos).getD 0 0 = 34 := by rw [getD_drop]; intro e; exact h ((T.u8_eq (n := 34) (by decide)).1 e)
  rw [if_neg this]

structure PwRel (m : List UInt8) (pos e : Nat) : Prop where
  cut : T.plainLen (m.drop pos) = (T.plainLen (m.drop e)).map (· + (e - pos))
theorem PwRel.start (m : List UInt8) (pos : Nat) : PwRel m pos pos := ⟨by simp⟩
theorem PwRel.go {m : List UInt8} {pos e : Nat} (h : PwRel m pos e) (hpe : pos ≤ e) (he : e < m.length) (hg : T.gapB (m.getD e 0) = false) (hq : T.bt m e ≠ 34) : PwRel m pos (e + 1) := by
  refine ⟨?_⟩
  have e1 : m.getD e 0 = m[e] := by simp [List.getD_eq_getElem?_getD, he]
  have hq2 : ¬ m[e] = 34 := by intro x; apply hq; rw [bt_get, e1, x]; rfl
  rw [e1] at hg
  rw [h.cut, List.drop_eq_getElem_cons he]
  simp only [T.plainLen, if_neg hq2, hg]
  rw [if_neg (by simp), Option.map_map]
  congr 1; funext x; simp; omega
theorem PwRel.gap {m : List UInt8} {pos e : Nat} (h : PwRel m pos e) (he : e < m.length) (hg : T.gapB (m.getD e 0) = true) (hq : T.bt m e ≠ 34) : T.plainLen (m.drop pos) = some (e - pos) := by
  have e1 : m.getD e 0 = m[e] := by simp [List.getD_eq_getElem?_getD, he]
  have hq2 : ¬ m[e] = 34 := by intro x; apply hq; rw [bt_get, e1, x]; rfl
  rw [e1] at hg
  rw [h.cut, List.drop_eq_getElem_cons he]
  simp [T.plainLen, hq2, hg]
theorem PwRel.quote {m : List UInt8} {pos e : Nat} (h : PwRel m pos e) (he : e < m.length) (hq : T.bt m e = 34) : T.plainLen (m.drop pos) = none := by
  have e1 : m.getD e 0 = m[e] := by simp [List.getD_eq_getElem?_getD, he]
  have hq2 : m[e] = 34 := by rw [← e1]; exact (T.u8_eq (n := 34) (by decide)).2 hq
  rw [h.cut, List.drop_eq_getElem_cons he]
  simp [T.plainLen, hq2]
theorem PwRel.out {m : List UInt8} {pos e : Nat} (h : PwRel m pos e) (he : m.length ≤ e) : T.plainLen (m.drop pos) = some (e - pos) := by
  rw [h.cut, List.drop_of_length_le he]; simp [T.plainLen]
theorem gap_not_quote {c : UInt8} (h : T.gapB c = true) : c.toNat ≠ 34 := by
  simp only [T.gapB, Bool.or_eq_true, beq_iff_eq] at h
  rcases h with rfl | rfl <;> decide

structure RwAt (m : List UInt8) (w : World) (v : Value) (wr : World) (pos : Nat) (acc : List (List UInt8)) : Prop where
  own : wr.ownsRow w.heap.size 9 1 v acc.length (strCells acc)
  bel : Below w.heap.size w wr
  le : pos ≤ m.length
  rel : RwRel m pos acc
theorem RwAt.step {m : List UInt8} {w : World} {v v' : Value} {wr w0 w1 : World} {pos n k : Nat} {acc : List (List UInt8)} {t : List UInt8} {o : Obj} (h : RwAt m w v wr pos acc) (hb : Below wr.heap.size wr w0)
    (hr : RwRel m (pos + n) (acc ++ [t]) ∧ 1 ≤ n ∧ pos + n ≤ m.length) (hg : (w0.alloc o).grownBy w1 v.ownBlock) (ho : w1.ownsRow w.heap.size 9 1 v' k (strCells acc ++ [.string (B t)])) : RwAt m w v' w1 (pos + n) (acc ++ [t]) := by
  have hn : k = (acc ++ [t]).length := by have := ho.1; simp [strCells_len] at this; simp; omega
  subst hn
  have e : strCells acc ++ [.string (B t)] = strCells (acc ++ [t]) := by simp [strCells]
  rw [e] at ho
  have hbb := h.bel.trans (hb.mono h.bel.size)
  exact ⟨ho, below_grown hbb hbb.size (own_below h.own hb) hg, hr.2.2, hr.1⟩

set_option maxHeartbeats 4000000 in
set_option maxRecDepth 100000 in
theorem refWords_l (m : List UInt8) (w : World) (hs : m.length ≤ 100000) : Calls Try.prog 23 #[.string (B m)] w (WPost (wordsL m) w) := by
  obtain ⟨i0, hi, hz0, hz1, hz2⟩ := info_parts Try.info9
  go_enter Try.func23, Try.ntmps23
  go_wp2
  go_loopw [4, 5] (fun v a wr => ∃ (pos : Nat) (acc : List (List UInt8)), a = .int .i64 pos ∧ RwAt m w v wr pos acc) (fun _ a _ => m.length - (intOf a).toNat)
  case atStart => exact ⟨0, [], rfl, World.ownsRow_nil _ _ _ _, Below.refl _ w, by omega, RwRel.start m⟩
  case round =>
    obtain ⟨pos, acc, rfl, hg⟩ := hrel
    have hal := hg.rel.le
    have hle := hg.le
    have hown := hg.own
    have hsz := hg.bel.size
    have HG := Lib.hid hg; clear hg
    by_cases hp : pos < m.length
    · have hb8 := T.bt_lt m pos
      have BL := Lib.hid (blank_l (m.getD pos 0))
      cases hgap : T.gapB (m.getD pos 0)
      · have HGAP := Lib.hid hgap; clear hgap
        by_cases c34 : T.bt m pos = 34
        · have cb : ((T.bt m pos : Int) == 34) = true := by simp; omega
          have HFQ := Lib.hid (fw_quote c34)
          clear c34
          have hdl : (m.drop pos).length = m.length - pos := by simp
          cases hn : qTot (m.drop pos) with
          | none =>
            have HD := Lib.hid (HG.out.rel.bad hp HGAP.out (HFQ.out.trans (fq_none hn)))
            have HN := Lib.hid (qInt_none hn); clear hn
            go_wp2_with fail
            refine (BL.out _).mono ?_
            rintro e1 w' ⟨rfl, rfl⟩
            rw [HGAP.out]
            go_wp2_with fail
            refine (quoted_l (m.drop pos) _ (by omega)).mono ?_
            rintro e2 w' ⟨rfl, rfl⟩
            rw [HN.out]
            go_wp2
            go_ret2
            rw [HD.out]
            exact ⟨_, rfl, World.ownsRow_nil _ _ _ _, HG.out.bel⟩
          | some n =>
            have hnl := qTot_le hn
            rw [hdl] at hnl
            have HN := Lib.hid (qInt_some hn)
            have HX := Lib.hid (show (B m).extract pos (pos + n) = B ((m.drop pos).take n) by rw [ext_mid2, show pos + n - pos = n by omega])
            by_cases hlt : pos + n < m.length
            · have hb9 := T.bt_lt m (pos + n)
              have BL2 := Lib.hid (blank_l (m.getD (pos + n) 0))
              cases hge : T.gapB (m.getD (pos + n) 0)
              · have HD := Lib.hid (HG.out.rel.bad hp HGAP.out (HFQ.out.trans (fq_gap hn (by omega) (by rw [getD_drop]; exact hge))))
                have HGE := Lib.hid hge; clear hge hn
                go_wp2_with fail
                refine (BL.out _).mono ?_
                rintro e1 w' ⟨rfl, rfl⟩
                rw [HGAP.out]
                go_wp2_with fail
                refine (quoted_l (m.drop pos) _ (by omega)).mono ?_
                rintro e2 w' ⟨rfl, rfl⟩
                rw [HN.out]
                go_wp2_with fail
                refine (BL2.out _).mono ?_
                rintro e3 w' ⟨rfl, rfl⟩
                rw [HGE.out]
                go_wp2
                go_ret2
                rw [HD.out]
                exact ⟨_, rfl, World.ownsRow_nil _ _ _ _, HG.out.bel⟩
              · have HS := Lib.hid (fq_go hn (by rw [getD_drop, hge]; simp))
                have HGE := Lib.hid hge; clear hge hn
                cases hu : unqL ((m.drop pos).take n) with
                | none =>
                  have HD := Lib.hid (HG.out.rel.bad hp HGAP.out (HFQ.out.trans (HS.out.trans (by rw [hu]; rfl))))
                  have HU := Lib.hid hu; clear hu
                  go_wp2_with fail
                  refine (BL.out _).mono ?_
                  rintro e1 w' ⟨rfl, rfl⟩
                  rw [HGAP.out]
                  go_wp2_with fail
                  refine (quoted_l (m.drop pos) _ (by omega)).mono ?_
                  rintro e2 w' ⟨rfl, rfl⟩
                  rw [HN.out]
                  go_wp2_with fail
                  refine (BL2.out _).mono ?_
                  rintro e3 w' ⟨rfl, rfl⟩
                  rw [HGE.out]
                  go_wp2_with fail
                  rw [HX.out]
                  refine (refUnquote_l ((m.drop pos).take n) _ (by simp; omega)).mono ?_
                  rintro e4 w1 ⟨rfl, hb1⟩
                  rw [HU.out, unqRes_none]
                  go_wp2
                  go_ret2
                  rw [HD.out]
                  exact ⟨_, rfl, World.ownsRow_nil _ _ _ _, HG.out.bel.trans (hb1.mono hsz)⟩
                | some t =>
                  have HW := Lib.hid (HG.out.rel.word (t := t) (n := n) hp HGAP.out (HFQ.out.trans (HS.out.trans (by rw [hu]; rfl))))
                  have HU := Lib.hid hu; clear hu
                  go_wp2_with fail
                  refine (BL.out _).mono ?_
                  rintro e1 w' ⟨rfl, rfl⟩
                  rw [HGAP.out]
                  go_wp2_with fail
                  refine (quoted_l (m.drop pos) _ (by omega)).mono ?_
                  rintro e2 w' ⟨rfl, rfl⟩
                  rw [HN.out]
                  go_wp2_with fail
                  refine (BL2.out _).mono ?_
                  rintro e3 w' ⟨rfl, rfl⟩
                  rw [HGE.out]
                  go_wp2_with fail
                  rw [HX.out]
                  refine (refUnquote_l ((m.drop pos).take n) _ (by simp; omega)).mono ?_
                  rintro e4 w1 ⟨rfl, hb1⟩
                  rw [HU.out, unqRes_some]
                  have hown1 := own_below hown hb1
                  have hsz1 := hb1.size
                  go_wp2_with (at_builtin; refine wpList_append_own _ rfl _ _ 31 rfl w.heap.size 9 i0 (.string ⟨#[]⟩) 1 16 Try.underlying31 hi hz0 hz1 hz2 rfl (by decide) _ _ _ rfl (hown1.alloc _) ⟨w1.heap.size, 0, none⟩ 1 1 [.string (B t)] rfl rfl (cell_one_new _ _ _) (by intro u hu; simp at hu; subst hu; rfl) (by unfold maxLen; omega) (by omega) (by simp; omega) ?_; intro v' w2 hown' hgrow _)
                  have HZ := HG.out.step hb1 HW.out hgrow hown'
                  clear hown' hgrow hown1 hb1
                  go_wp2
                  go_roundw
                  case rel => exact ⟨pos + n, acc ++ [t], by go_num, HZ⟩
                  case measure => simp [intOf]; omega
            · have HS := Lib.hid (fq_go hn (fun h => hlt (by omega)))
              clear hn
              cases hu : unqL ((m.drop pos).take n) with
              | none =>
                have HD := Lib.hid (HG.out.rel.bad hp HGAP.out (HFQ.out.trans (HS.out.trans (by rw [hu]; rfl))))
                have HU := Lib.hid hu; clear hu
                go_wp2_with fail
                refine (BL.out _).mono ?_
                rintro e1 w' ⟨rfl, rfl⟩
                rw [HGAP.out]
                go_wp2_with fail
                refine (quoted_l (m.drop pos) _ (by omega)).mono ?_
                rintro e2 w' ⟨rfl, rfl⟩
                rw [HN.out]
                go_wp2_with fail
                rw [HX.out]
                refine (refUnquote_l ((m.drop pos).take n) _ (by simp; omega)).mono ?_
                rintro e4 w1 ⟨rfl, hb1⟩
                rw [HU.out, unqRes_none]
                go_wp2
                go_ret2
                rw [HD.out]
                exact ⟨_, rfl, World.ownsRow_nil _ _ _ _, HG.out.bel.trans (hb1.mono hsz)⟩
              | some t =>
                have HW := Lib.hid (HG.out.rel.word (t := t) (n := n) hp HGAP.out (HFQ.out.trans (HS.out.trans (by rw [hu]; rfl))))
                have HU := Lib.hid hu; clear hu
                go_wp2_with fail
                refine (BL.out _).mono ?_
                rintro e1 w' ⟨rfl, rfl⟩
                rw [HGAP.out]
                go_wp2_with fail
                refine (quoted_l (m.drop pos) _ (by omega)).mono ?_
                rintro e2 w' ⟨rfl, rfl⟩
                rw [HN.out]
                go_wp2_with fail
                rw [HX.out]
                refine (refUnquote_l ((m.drop pos).take n) _ (by simp; omega)).mono ?_
                rintro e4 w1 ⟨rfl, hb1⟩
                rw [HU.out, unqRes_some]
                have hown1 := own_below hown hb1
                have hsz1 := hb1.size
                go_wp2_with (at_builtin; refine wpList_append_own _ rfl _ _ 31 rfl w.heap.size 9 i0 (.string ⟨#[]⟩) 1 16 Try.underlying31 hi hz0 hz1 hz2 rfl (by decide) _ _ _ rfl (hown1.alloc _) ⟨w1.heap.size, 0, none⟩ 1 1 [.string (B t)] rfl rfl (cell_one_new _ _ _) (by intro u hu; simp at hu; subst hu; rfl) (by unfold maxLen; omega) (by omega) (by simp; omega) ?_; intro v' w2 hown' hgrow _)
                have HZ := HG.out.step hb1 HW.out hgrow hown'
                clear hown' hgrow hown1 hb1
                go_wp2
                go_roundw
                case rel => exact ⟨pos + n, acc ++ [t], by go_num, HZ⟩
                case measure => simp [intOf]; omega
        · have cb : ((T.bt m pos : Int) == 34) = false := by simp; omega
          have HFP := Lib.hid (fw_plain c34)
          clear c34
          go_wp2_with fail
          refine (BL.out _).mono ?_
          rintro e w' ⟨rfl, rfl⟩
          rw [HGAP.out]
          go_wp2
          go_loop [9] (fun s => ∃ e : Nat, s = .int .i64 e ∧ pos ≤ e ∧ e ≤ m.length ∧ PwRel m pos e) (fun s => m.length - (intOf s).toNat)
          case atStart => exact ⟨pos, rfl, by omega, by omega, PwRel.start m pos⟩
          case round =>
            obtain ⟨e, rfl, hpe, hem, hpr⟩ := hrel
            have HPR := Lib.hid hpr; clear hpr
            by_cases he : e < m.length
            · have hb9 := T.bt_lt m e
              have BL2 := Lib.hid (blank_l (m.getD e 0))
              cases hge : T.gapB (m.getD e 0)
              · have HGE := Lib.hid hge; clear hge
                by_cases d34 : T.bt m e = 34
                · have db : ((T.bt m e : Int) == 34) = true := by simp; omega
                  have HD := Lib.hid (HG.out.rel.bad hp HGAP.out (by rw [HFP.out, HPR.out.quote he d34]; rfl))
                  clear d34
                  go_wp2_with fail
                  refine (BL2.out _).mono ?_
                  rintro e3 w' ⟨rfl, rfl⟩
                  rw [HGE.out]
                  go_wp2
                  go_ret2
                  rw [HD.out]
                  exact ⟨_, rfl, World.ownsRow_nil _ _ _ _, HG.out.bel⟩
                · have db : ((T.bt m e : Int) == 34) = false := by simp; omega
                  have HR := Lib.hid (HPR.out.go hpe he HGE.out d34)
                  clear d34
                  go_wp2_with fail
                  refine (BL2.out _).mono ?_
                  rintro e3 w' ⟨rfl, rfl⟩
                  rw [HGE.out]
                  go_wp2
                  go_round
                  case rel => exact ⟨e + 1, by go_num, by omega, by omega, HR.out⟩
                  case measure => simp [intOf]; omega
              · have HW := Lib.hid (HG.out.rel.word (t := (m.drop pos).take (e - pos)) (n := e - pos) hp HGAP.out (by rw [HFP.out, HPR.out.gap he hge (gap_not_quote hge)]; rfl))
                have HGE := Lib.hid hge; clear hge
                have hwn := HW.out.2.1
                go_wp2_with fail
                refine (BL2.out _).mono ?_
                rintro e3 w' ⟨rfl, rfl⟩
                rw [HGE.out]
                go_wp2_with (at_builtin; refine wpList_append_own _ rfl _ _ 31 rfl w.heap.size 9 i0 (.string ⟨#[]⟩) 1 16 Try.underlying31 hi hz0 hz1 hz2 rfl (by decide) _ _ _ rfl (hown.alloc _) ⟨wr.heap.size, 0, none⟩ 1 1 [.string ((B m).extract pos e)] rfl rfl (cell_one_new _ _ _) (by intro u hu; simp at hu; subst hu; rfl) (by unfold maxLen; omega) (by omega) (by simp; omega) ?_; intro v' w2 hown' hgrow _)
                rw [ext_mid2] at hown'
                have HZ := HG.out.step (Below.refl _ _) HW.out hgrow hown'
                rw [show pos + (e - pos) = e by omega] at HZ
                clear hown' hgrow
                go_wp2
                go_roundw
                case rel => exact ⟨e, _, by go_num, HZ⟩
                case measure => simp [intOf]; omega
            · have HW := Lib.hid (HG.out.rel.word (t := (m.drop pos).take (e - pos)) (n := e - pos) hp HGAP.out (by rw [HFP.out, HPR.out.out (by omega)]; rfl))
              have hwn := HW.out.2.1
              go_wp2_with (at_builtin; refine wpList_append_own _ rfl _ _ 31 rfl w.heap.size 9 i0 (.string ⟨#[]⟩) 1 16 Try.underlying31 hi hz0 hz1 hz2 rfl (by decide) _ _ _ rfl (hown.alloc _) ⟨wr.heap.size, 0, none⟩ 1 1 [.string ((B m).extract pos e)] rfl rfl (cell_one_new _ _ _) (by intro u hu; simp at hu; subst hu; rfl) (by unfold maxLen; omega) (by omega) (by simp; omega) ?_; intro v' w2 hown' hgrow _)
              rw [ext_mid2] at hown'
              have HZ := HG.out.step (Below.refl _ _) HW.out hgrow hown'
              rw [show pos + (e - pos) = e by omega] at HZ
              clear hown' hgrow
              go_wp2
              go_roundw
              case rel => exact ⟨e, _, by go_num, HZ⟩
              case measure => simp [intOf]; omega
      · have HR := Lib.hid (HG.out.rel.gap hp hgap)
        have HGAP := Lib.hid hgap; clear hgap
        go_wp2_with fail
        refine (BL.out _).mono ?_
        rintro e w' ⟨rfl, rfl⟩
        rw [HGAP.out]
        go_wp2
        go_roundw
        case rel => exact ⟨pos + 1, acc, by go_num, hown, HG.out.bel, by omega, HR.out⟩
        case measure => simp [intOf]; omega
    · have HS := Lib.hid (HG.out.rel.done (by omega))
      go_wp2
      go_ret2
      rw [HS.out]
      exact ⟨_, rfl, hown, HG.out.bel⟩
end Go.Proofs.Ytnaabapahblhmaa
