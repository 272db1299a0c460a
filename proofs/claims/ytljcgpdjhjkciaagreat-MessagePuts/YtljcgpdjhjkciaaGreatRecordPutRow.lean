/-
  Walks of PutRow, of package record and of the document's answer.
-/
import Derived.Test.YtljcgpdjhjkciaaGreatRecordPut
namespace Go.Proofs.YtljcgpdjhjkciaaGreat
open Go.RowKit
attribute [local go_sem] ext_Bd ext_Bl ext_Bt toList_B add_B size_B get_Bt

theorem all_step6 {l : List R.En} {k : Nat} (h : k < l.length) : (l.take (k + 1)).flatMap R.bytes = (l.take k).flatMap R.bytes ++ R.bytes l[k] := by
  rw [List.take_succ_eq_append_getElem h, List.flatMap_append]; simp

set_option maxHeartbeats 2000000 in
set_option maxRecDepth 100000 in
theorem refPutRow_l (es : List EV) (v : Value) (w : World) (hv : ReadsR w v es) (hl : es.length ≤ 40) (hs : ∀ x ∈ es, E.Tiny x.1.b) :
    Calls Tryz.prog 25 #[v] w fun r w' => r = .returned (.string (B (R.putRow (ensOf es)))) ∧ Below w.heap.size w w' := by
  obtain ⟨s, HSS⟩ : ∃ s, Hid (R.putRow (ensOf es) = s) := ⟨_, Lib.hid rfl⟩
  rw [HSS.out]
  have HV := Lib.hid hv
  have HSM := Lib.hid hs
  obtain ⟨av, cv, rfl, _⟩ := hv
  clear hs
  obtain ⟨hd, HHD⟩ : ∃ hd, Hid (N.putL (N.held (es.length : Int)) = hd) := ⟨_, Lib.hid rfl⟩
  have hdl : hd.length ≤ 6 := by have := N.putL_len6 (N.held_le (es.length : Int)); rw [HHD.out] at this; exact this
  have HHL : Hid (N.putL es.length = hd) := Lib.hid (by rw [← HHD.out, show N.held (es.length : Int) = es.length by unfold N.held; omega])
  go_enter Tryz.func25, Tryz.ntmps25
  go_wp2_with fail
  refine (refNPut_at (es.length : Int) hd _ HHD).mono ?_
  rintro x w1 ⟨rfl, hb1⟩
  have HB1 := Lib.hid hb1
  clear hb1 HHD
  go_wp2
  go_loopw [3, 4] (fun vs i wr => ∃ (k : Nat) (acc : List UInt8), i = .int .i64 k ∧ vs = .string (B acc) ∧ k ≤ es.length ∧ acc = hd ++ ((ensOf es).take k).flatMap R.bytes ∧ ((ensOf es).take k).all R.right = true ∧ Below w.heap.size w wr) (fun _ i _ => es.length - (intOf i).toNat)
  case atStart => exact ⟨0, hd, rfl, rfl, Nat.zero_le _, by simp, by simp, HB1.out⟩
  case round =>
    obtain ⟨k, acc, rfl, rfl, hk, hacc, hall, hbe⟩ := hrel
    have HACC := Lib.hid hacc
    have HALL := Lib.hid hall
    have HBE := Lib.hid hbe
    have hlen : acc.length ≤ 6 + 20012 * k := by
      have h1 := R.row_len (xs := (ensOf es).take k) hall
      have h2 : ((ensOf es).take k).length ≤ k := by rw [List.length_take]; omega
      rw [hacc, List.length_append]
      have h3 : 20012 * ((ensOf es).take k).length ≤ 20012 * k := Nat.mul_le_mul_left _ h2
      omega
    clear hacc hall hbe
    by_cases hlt : k < es.length
    · obtain ⟨a2, c2, hve, _, _, hx⟩ := readsR_below HV.out HBE.out
      cases hve
      obtain ⟨hre, -, b1, o1, rfl, h7⟩ := hx k hlt
      have hk1 : (k : Int) < (es.length : Int) := by omega
      have HSK := Lib.hid (HSM.out _ (List.getElem_mem hlt))
      have hlt2 : k < (ensOf es).length := by rw [ensOf_len]; exact hlt
      have e1 : (ensOf es)[k]'hlt2 = es[k].1 := by simp
      have HBAD : Hid (R.right es[k].1 = false → s = []) := Lib.hid fun h => by
        rw [← HSS.out]
        exact R.putRow_bad (List.all_eq_false.2 ⟨es[k].1, List.mem_map.2 ⟨es[k], List.getElem_mem hlt, rfl⟩, by simp [h]⟩)
      have HOK : Hid (R.right es[k].1 = true → (acc ++ R.bytes es[k].1 = hd ++ ((ensOf es).take (k + 1)).flatMap R.bytes) ∧ ((ensOf es).take (k + 1)).all R.right = true ∧ (R.bytes es[k].1).length ≤ 20012) := Lib.hid fun h => by
        refine ⟨by rw [all_step6 hlt2, e1, HACC.out, List.append_assoc], ?_, R.bytes_len h⟩
        rw [List.take_succ_eq_append_getElem hlt2, List.all_append, HALL.out, e1]
        simp [h]
      clear hx e1 hlt2
      generalize es[k] = pe at hre h7 HSK HBAD HOK
      obtain ⟨e, u⟩ := pe
      dsimp only at hre h7 HSK HBAD HOK
      have HRE := Lib.hid hre
      obtain ⟨ea, ec, rfl, _⟩ := hre
      obtain ⟨c0, c1, c2, c3, c4, c5, c6⟩ := h7
      obtain ⟨p, HP⟩ : ∃ p, Hid (R.putEn e = p) := ⟨_, Lib.hid rfl⟩
      go_wp2_with fail
      refine (refPut6_at e _ p wr HRE.out HSK.out HP).mono ?_
      rintro x w2 ⟨rfl, hb2⟩
      have HB2 := Lib.hid (HBE.out.trans (hb2.mono HBE.out.size))
      clear hb2 c0 c1 c2 c3 c4 c5 c6
      cases hr : R.right e
      · have hpn : p = [] := by rw [← HP.out]; exact R.putEn_bad hr
        have HE := Lib.hid (HBAD.out hr)
        subst hpn
        clear hr
        go_wp2
        go_ret
        rw [HE.out]
        exact ⟨rfl, HB2.out⟩
      · obtain ⟨h1, h2, h3⟩ := HOK.out hr
        have hpe : R.bytes e = p := by rw [← HP.out]; exact (R.putEn_ok hr).symm
        have hpos := R.bytes_pos e
        rw [hpe] at h1 h3 hpos
        have HN1 := Lib.hid h1
        have HN2 := Lib.hid h2
        have hpi : (p == []) = false := by
          cases p with
          | nil => simp at hpos
          | cons => rfl
        have hak : acc.length + p.length ≤ 1000000 := by
          have : 20012 * k ≤ 20012 * 39 := Nat.mul_le_mul_left _ (by omega)
          omega
        have hcat := cat_run (a := acc) (c := p) hak
        clear hr h1 h2 hpe
        go_wp2
        go_roundw
        case rel => exact ⟨k + 1, acc ++ p, by go_num, rfl, by omega, HN1.out, HN2.out, HB2.out⟩
        case measure => simp [intOf]; omega
    · have HE := Lib.hid (show acc = s by
        have h1 := HALL.out
        rw [List.take_of_length_le (by rw [ensOf_len]; omega)] at h1
        rw [HACC.out, List.take_of_length_le (by rw [ensOf_len]; omega), ← HSS.out, R.putRow_ok h1]
        unfold R.rowB
        rw [ensOf_len, HHL.out])
      go_wp2
      go_ret
      rw [HE.out]
      exact ⟨rfl, HBE.out⟩
end Go.Proofs.YtljcgpdjhjkciaaGreat
