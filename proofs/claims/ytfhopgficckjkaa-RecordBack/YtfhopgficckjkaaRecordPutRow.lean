/-
  Walks of PutRow, of package record and of the document's answer.
-/
import Derived.Test.YtfhopgficckjkaaRecordPut
namespace Go.Proofs.Ytfhopgficckjkaa
open Go.RowKit
attribute [local go_sem] ext_Bd ext_Bl ext_Bt toList_B add_B size_B get_Bt

set_option maxHeartbeats 1000000 in
set_option maxRecDepth 100000 in
theorem wrong_at (e : R.En) (v : Value) (r : Bool) (w : World) (hv : ReadsE w v e.b.events) (hs : E.Small e.b) (H : Hid ((!R.right e) = r)) :
    Calls Try.prog 38 #[enV e v] w fun x w' => x = .returned (.bool r) ∧ Below w.heap.size w w' := by
  obtain ⟨q, HQ⟩ : ∃ r, Hid (R.right e = r) := ⟨_, Lib.hid rfl⟩
  have HR : Hid ((!q) = r) := Lib.hid (by rw [← HQ.out]; exact H.out)
  have HV := Lib.hid hv
  have HS := Lib.hid hs
  obtain ⟨a, cap, rfl, _⟩ := hv
  clear hs H
  go_enter Try.func38, Try.ntmps38
  go_wp2_with fail
  refine (Right6_at e _ q _ (readsE_below HV.out ((Below.refl _ w).alloc (Nat.le_refl _) _)) HS.out HQ).mono ?_
  rintro x w1 ⟨rfl, hb1⟩
  have HB := Lib.hid (below_box hb1)
  clear hb1
  cases q
  · go_wp2
    go_ret
    rw [← HR.out]
    exact ⟨rfl, HB.out⟩
  · go_wp2
    go_ret
    rw [← HR.out]
    exact ⟨rfl, HB.out⟩
theorem all_step6 {l : List R.En} {k : Nat} (h : k < l.length) : (l.take (k + 1)).flatMap R.bytes = (l.take k).flatMap R.bytes ++ R.bytes l[k] := by
  rw [List.take_succ_eq_append_getElem h, List.flatMap_append]; simp

set_option maxHeartbeats 2000000 in
set_option maxRecDepth 100000 in
theorem PutRow_l (es : List EV) (v : Value) (w : World) (hv : ReadsR w v es) (hl : es.length ≤ 40) (hs : ∀ x ∈ es, E.Small x.1.b) :
    Calls Try.prog 18 #[v] w fun r w' => r = .returned (.string (B (R.putRow (ensOf es)))) ∧ Below w.heap.size w w' := by
  obtain ⟨s, HSS⟩ : ∃ s, Hid (R.putRow (ensOf es) = s) := ⟨_, Lib.hid rfl⟩
  rw [HSS.out]
  have HV := Lib.hid hv
  have HSM := Lib.hid hs
  obtain ⟨av, cv, rfl, _⟩ := hv
  clear hs
  have hrun := found_run 38 #[] es (.slice av es.length cv) w (fun _ wr => Below w.heap.size w wr) (fun k => match es[k]? with | some p => !R.right p.1 | none => false) (.inl rfl) (by omega) HV.out (fun _ _ h => readsR_below HV.out h) (fun _ wr o h => h.alloc h.size o)
    (fun k wr h hst _ => by
      obtain ⟨a, cap, _, _, _, hx⟩ := readsR_below HV.out hst
      have hg : es[k]? = some es[k] := List.getElem?_eq_getElem h
      refine (wrong_at es[k].1 es[k].2 _ wr (hx k h).1 (HSM.out _ (List.getElem_mem h)) (Lib.hid rfl)).mono ?_
      rintro x w' ⟨rfl, hb⟩
      exact ⟨by rw [hg], hst.trans (hb.mono hst.size)⟩) (Below.refl _ _)
  have HRUN := Lib.hid hrun
  clear hrun
  go_enter Try.func18, Try.ntmps18
  go_wp2_with fail
  refine HRUN.out.mono ?_
  rintro x w1 ⟨hres, kk, hb1⟩
  have HB1 := Lib.hid hb1
  clear hb1 HRUN
  rcases hres with ⟨rfl, k, hk, hbk, -⟩ | ⟨rfl, hall⟩
  · have HE := Lib.hid (show s = [] by
      rw [← HSS.out]
      refine R.putRow_bad (List.all_eq_false.2 ⟨es[k].1, List.mem_map.2 ⟨es[k], List.getElem_mem hk, rfl⟩, ?_⟩)
      rw [List.getElem?_eq_getElem hk] at hbk
      simpa using hbk)
    clear hbk
    go_wp2
    go_ret
    rw [HE.out]
    exact ⟨rfl, HB1.out⟩
  · have HALL : Hid (∀ i (h : i < es.length), R.right es[i].1 = true) := Lib.hid fun i h => by
      have := hall i h
      rw [List.getElem?_eq_getElem h] at this
      simpa using this
    have HAL2 : Hid ((ensOf es).all R.right = true) := Lib.hid (List.all_eq_true.2 fun e he => by
      obtain ⟨p, hp, rfl⟩ := List.mem_map.1 he
      obtain ⟨i, hi, rfl⟩ := List.mem_iff_getElem.1 hp
      exact HALL.out i hi)
    clear hall
    obtain ⟨hd, HHD⟩ : ∃ hd, Hid (N.putL (N.held (es.length : Int)) = hd) := ⟨_, Lib.hid rfl⟩
    have hdl : hd.length ≤ 6 := by have := N.putL_len6 (N.held_le (es.length : Int)); rw [HHD.out] at this; exact this
    have HSE : Hid (s = hd ++ (ensOf es).flatMap R.bytes) := Lib.hid (by
      rw [← HSS.out, R.putRow_ok HAL2.out, ← HHD.out]; unfold R.rowB
      rw [ensOf_len, show N.held (es.length : Int) = es.length by unfold N.held; omega])
    clear HSS
    have HP0 := Lib.hid (PBAt.start w1)
    go_wp2_with fail
    refine (Put_any_at (es.length : Int) hd _ HHD).mono ?_
    rintro x w2 ⟨rfl, hb2⟩
    have HP1 := Lib.hid (HP0.out.call hb2)
    clear hb2 HP0
    go_wp2_with fail
    refine (HP1.out.write hd (by simp; omega)).mono ?_
    rintro x w3 ⟨rfl, hp3⟩
    have HP3 := Lib.hid hp3
    clear hp3 HP1
    go_wp2
    go_loopw [16] (fun i wr => ∃ k : Nat, i = .int .i64 k ∧ k ≤ es.length ∧ PBAt w1 (hd ++ ((ensOf es).take k).flatMap R.bytes) wr) (fun i _ => es.length - (intOf i).toNat)
    case atStart => exact ⟨0, rfl, Nat.zero_le _, by simpa using HP3.out⟩
    case round =>
      obtain ⟨k, rfl, hk, hrel⟩ := hrel
      have HREL := Lib.hid hrel; clear hrel HP3
      have hlen : (hd ++ ((ensOf es).take k).flatMap R.bytes).length ≤ 6 + 20012 * k := by
        have h1 := R.row_len (xs := (ensOf es).take k) (List.all_eq_true.2 fun e he => List.all_eq_true.1 HAL2.out e (List.mem_of_mem_take he))
        have h2 : ((ensOf es).take k).length ≤ k := by rw [List.length_take]; omega
        rw [List.length_append]
        have h3 : 20012 * ((ensOf es).take k).length ≤ 20012 * k := Nat.mul_le_mul_left _ h2
        omega
      by_cases hlt : k < es.length
      · have hrd := readsR_below HV.out (HB1.out.trans (HREL.out.bel.mono HB1.out.size))
        obtain ⟨a2, c2, hve, _, _, hx⟩ := hrd
        cases hve
        obtain ⟨hre, -, b1, o1, rfl, h7⟩ := hx k hlt
        have hk1 : (k : Int) < (es.length : Int) := by omega
        have HRT := Lib.hid (HALL.out k hlt)
        have HSK := Lib.hid (HSM.out _ (List.getElem_mem hlt))
        have HFS := Lib.hid (all_step6 (l := ensOf es) (k := k) (by rw [ensOf_len]; exact hlt))
        have e1 : (ensOf es)[k]'(by rw [ensOf_len]; exact hlt) = es[k].1 := by simp
        rw [e1] at HFS
        have hbl := R.bytes_len (HALL.out k hlt)
        clear hx e1
        generalize es[k] = pe at hre h7 HRT HSK HFS hbl
        obtain ⟨e, u⟩ := pe
        dsimp only at hre h7 HRT HSK HFS hbl
        obtain ⟨p, HPE⟩ : ∃ p, Hid (R.bytes e = p) := ⟨_, Lib.hid rfl⟩
        rw [HPE.out] at HFS hbl
        have HRE := Lib.hid hre
        obtain ⟨ea, ec, rfl, _⟩ := hre
        obtain ⟨c0, c1, c2, c3, c4, c5, c6⟩ := h7
        generalize hac : hd ++ ((ensOf es).take k).flatMap R.bytes = acc at *
        have HACC : Hid (hd ++ ((ensOf es).take (k + 1)).flatMap R.bytes = acc ++ p) := Lib.hid (by rw [HFS.out, ← List.append_assoc, hac])
        clear hac HFS
        have hak : acc.length + p.length ≤ 1000000 := by
          have : 20012 * k ≤ 20012 * 39 := Nat.mul_le_mul_left _ (by omega)
          omega
        have HRN := Lib.hid (HREL.out.new (.cells #[.int .i64 e.pos, .int .i64 e.epoch, .string (B e.b.stream), .int .i64 e.b.expect, .int .i64 e.b.session, .int .i64 e.b.seq, .slice ea e.b.events.length ec] 26))
        go_wp2_with fail
        refine (bytesOf_at e _ p _ (readsE_below HRE.out ((Below.refl _ wr).alloc (Nat.le_refl _) _)) HSK.out HRT.out HPE).mono ?_
        rintro x w20 ⟨rfl, hb20⟩
        have HR20 := Lib.hid (HRN.out.call hb20)
        clear hb20 c0 c1 c2 c3 c4 c5 c6
        go_wp2_with fail
        refine (HR20.out.write p hak).mono ?_
        rintro x w21 ⟨rfl, hr21⟩
        have HR21 := Lib.hid hr21
        clear hr21
        go_wp2
        go_roundw
        case rel => exact ⟨k + 1, by go_num, by omega, by rw [HACC.out]; exact HR21.out⟩
        case measure => simp [intOf]; omega
      · have HT := Lib.hid (show s = hd ++ ((ensOf es).take k).flatMap R.bytes by rw [HSE.out, List.take_of_length_le (by rw [ensOf_len]; omega)])
        generalize hd ++ ((ensOf es).take k).flatMap R.bytes = acc at *
        go_wp2_with fail
        refine (Try.builderString w1.heap.size w1.heap.size acc wr HREL.out.bd HREL.out.bel.size).mono ?_
        rintro x w22 ⟨rfl, hb22⟩
        have hb23 := HB1.out.trans ((HREL.out.bel.trans hb22).mono HB1.out.size)
        clear hb22
        go_wp2
        go_ret
        rw [HT.out]
        exact ⟨rfl, hb23⟩

set_option maxHeartbeats 2000000 in
set_option maxRecDepth 100000 in
theorem refPutRow_l (es : List EV) (v : Value) (w : World) (hv : ReadsR w v es) (hl : es.length ≤ 40) (hs : ∀ x ∈ es, E.Small x.1.b) :
    Calls Try.prog 19 #[v] w fun r w' => r = .returned (.string (B (R.putRow (ensOf es)))) ∧ Below w.heap.size w w' := by
  obtain ⟨s, HSS⟩ : ∃ s, Hid (R.putRow (ensOf es) = s) := ⟨_, Lib.hid rfl⟩
  rw [HSS.out]
  have HV := Lib.hid hv
  have HSM := Lib.hid hs
  obtain ⟨av, cv, rfl, _⟩ := hv
  clear hs
  obtain ⟨hd, HHD⟩ : ∃ hd, Hid (N.putL (N.held (es.length : Int)) = hd) := ⟨_, Lib.hid rfl⟩
  have hdl : hd.length ≤ 6 := by have := N.putL_len6 (N.held_le (es.length : Int)); rw [HHD.out] at this; exact this
  have HHL : Hid (N.putL es.length = hd) := Lib.hid (by rw [← HHD.out, show N.held (es.length : Int) = es.length by unfold N.held; omega])
  go_enter Try.func19, Try.ntmps19
  go_wp2_with fail
  refine (refNPut_at (es.length : Int) hd _ HHD).mono ?_
  rintro x w1 ⟨rfl, hb1⟩
  have HB1 := Lib.hid hb1
  clear hb1 HHD
  go_wp2
  go_loopw [3, 4] (fun vs i wr => ∃ (k : Nat) (acc : List UInt8), i = .int .i64 k ∧ vs = .string (B acc) ∧ k ≤ es.length ∧ acc = hd ++ ((ensOf es).take k).flatMap R.bytes ∧ ((ensOf es).take k).all R.right = true ∧ Below w.heap.size w wr) (fun _ i _ => es.length - (intOf i).toNat)
  case atStart => exact ⟨0, hd, rfl, rfl, Nat.zero_le _, by simp, by simp, HB1.out⟩
  case round =>
    obtain ⟨k, acc, rfl, rfl, hk, hacc, hall, hbe⟩ := hrel
    have HACC := Lib.hid hacc
    have HALL := Lib.hid hall
    have HBE := Lib.hid hbe
    have hlen : acc.length ≤ 6 + 20012 * k := by
      have h1 := R.row_len (xs := (ensOf es).take k) hall
      have h2 : ((ensOf es).take k).length ≤ k := by rw [List.length_take]; omega
      rw [hacc, List.length_append]
      have h3 : 20012 * ((ensOf es).take k).length ≤ 20012 * k := Nat.mul_le_mul_left _ h2
      omega
    clear hacc hall hbe
    by_cases hlt : k < es.length
    · obtain ⟨a2, c2, hve, _, _, hx⟩ := readsR_below HV.out HBE.out
      cases hve
      obtain ⟨hre, -, b1, o1, rfl, h7⟩ := hx k hlt
      have hk1 : (k : Int) < (es.length : Int) := by omega
      have HSK := Lib.hid (HSM.out _ (List.getElem_mem hlt))
      have hlt2 : k < (ensOf es).length := by rw [ensOf_len]; exact hlt
      have e1 : (ensOf es)[k]'hlt2 = es[k].1 := by simp
      have HBAD : Hid (R.right es[k].1 = false → s = []) := Lib.hid fun h => by
        rw [← HSS.out]
        exact R.putRow_bad (List.all_eq_false.2 ⟨es[k].1, List.mem_map.2 ⟨es[k], List.getElem_mem hlt, rfl⟩, by simp [h]⟩)
      have HOK : Hid (R.right es[k].1 = true → (acc ++ R.bytes es[k].1 = hd ++ ((ensOf es).take (k + 1)).flatMap R.bytes) ∧ ((ensOf es).take (k + 1)).all R.right = true ∧ (R.bytes es[k].1).length ≤ 20012) := Lib.hid fun h => by
        refine ⟨by rw [all_step6 hlt2, e1, HACC.out, List.append_assoc], ?_, R.bytes_len h⟩
        rw [List.take_succ_eq_append_getElem hlt2, List.all_append, HALL.out, e1]
        simp [h]
      clear hx e1 hlt2
      generalize es[k] = pe at hre h7 HSK HBAD HOK
      obtain ⟨e, u⟩ := pe
      dsimp only at hre h7 HSK HBAD HOK
      have HRE := Lib.hid hre
      obtain ⟨ea, ec, rfl, _⟩ := hre
      obtain ⟨c0, c1, c2, c3, c4, c5, c6⟩ := h7
      obtain ⟨p, HP⟩ : ∃ p, Hid (R.putEn e = p) := ⟨_, Lib.hid rfl⟩
      go_wp2_with fail
      refine (refPut6_at e _ p wr HRE.out HSK.out HP).mono ?_
      rintro x w2 ⟨rfl, hb2⟩
      have HB2 := Lib.hid (HBE.out.trans (hb2.mono HBE.out.size))
      clear hb2 c0 c1 c2 c3 c4 c5 c6
      cases hr : R.right e
      · have hpn : p = [] := by rw [← HP.out]; exact R.putEn_bad hr
        have HE := Lib.hid (HBAD.out hr)
        subst hpn
        clear hr
        go_wp2
        go_ret
        rw [HE.out]
        exact ⟨rfl, HB2.out⟩
      · obtain ⟨h1, h2, h3⟩ := HOK.out hr
        have hpe : R.bytes e = p := by rw [← HP.out]; exact (R.putEn_ok hr).symm
        have hpos := R.bytes_pos e
        rw [hpe] at h1 h3 hpos
        have HN1 := Lib.hid h1
        have HN2 := Lib.hid h2
        have hpi : (p == []) = false := by
          cases p with
          | nil => simp at hpos
          | cons => rfl
        have hak : acc.length + p.length ≤ 1000000 := by
          have : 20012 * k ≤ 20012 * 39 := Nat.mul_le_mul_left _ (by omega)
          omega
        have hcat := cat_run (a := acc) (c := p) hak
        clear hr h1 h2 hpe
        go_wp2
        go_roundw
        case rel => exact ⟨k + 1, acc ++ p, by go_num, rfl, by omega, HN1.out, HN2.out, HB2.out⟩
        case measure => simp [intOf]; omega
    · have HE := Lib.hid (show acc = s by
        have h1 := HALL.out
        rw [List.take_of_length_le (by rw [ensOf_len]; omega)] at h1
        rw [HACC.out, List.take_of_length_le (by rw [ensOf_len]; omega), ← HSS.out, R.putRow_ok h1]
        unfold R.rowB
        rw [ensOf_len, HHL.out])
      go_wp2
      go_ret
      rw [HE.out]
      exact ⟨rfl, HBE.out⟩
end Go.Proofs.Ytfhopgficckjkaa
