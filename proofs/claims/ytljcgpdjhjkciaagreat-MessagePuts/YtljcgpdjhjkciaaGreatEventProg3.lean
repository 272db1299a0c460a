/-
  The walk of PutBatch of package event.
-/
import Derived.Test.YtljcgpdjhjkciaaGreatEventProg2
namespace Go.Proofs.YtljcgpdjhjkciaaGreat
open Go.RowKit
attribute [local go_sem] ext_Bd ext_Bl ext_Bt toList_B add_B size_B get_Bt

/-- A builder that was made behind world w1, with what was written. -/
structure PBAt (w1 : World) (acc : List UInt8) (wr : World) : Prop where
  bd : Lib.IsBuilder 149 5 w1.heap.size w1.heap.size (Lib.byteCells acc) wr
  bel : Below w1.heap.size w1 wr
theorem PBAt.start (w1 : World) : PBAt w1 [] (w1.alloc (.cells #[.pointer none, .slice none 0 0] 149)) :=
  ⟨Lib.fresh_isBuilder _ _ w1, (Below.refl _ w1).alloc (Nat.le_refl _) _⟩
theorem PBAt.call {w1 wr w2 : World} {acc : List UInt8} (h : PBAt w1 acc wr) (hb : Below wr.heap.size wr w2) : PBAt w1 acc w2 := ⟨builder_below h.bd hb, h.bel.trans (hb.mono h.bel.size)⟩
theorem PBAt.new {w1 wr : World} {acc : List UInt8} (h : PBAt w1 acc wr) (o : Obj) : PBAt w1 acc (wr.alloc o) := h.call ((Below.refl _ wr).alloc (Nat.le_refl _) o)
theorem PBAt.write {w1 wr : World} {acc : List UInt8} (h : PBAt w1 acc wr) (s : List UInt8) (hl : acc.length + s.length ≤ 1000000) :
    Calls Tryz.prog 65 #[.pointer (some ⟨w1.heap.size, 0, none⟩), .string (B s)] wr fun e w' => e = .returned (.tuple #[.int .i64 s.length, .nilIface]) ∧ PBAt w1 (acc ++ s) w' := by
  refine (Tryz.builderWrite w1.heap.size w1.heap.size _ (B s) wr h.bd (by rw [Lib.byteCells_length, size_B]; omega) h.bel.size).mono ?_
  rintro e w2 ⟨rfl, hbd, hb⟩
  exact ⟨by rw [size_B], .inr (by rw [Lib.byteCells_append, ← str_B s]; exact hbd), h.bel.trans hb⟩
theorem PBAt.cell {w1 wr : World} {acc : List UInt8} (h : PBAt w1 acc wr) {p : Addr} {u : Value} (hc : w1.cell? p = some u) : wr.cell? p = some u := by
  rw [h.bel.cell (World.block_lt_of_cell? w1 _ hc)]; exact hc
theorem Put_any_at (n : Int) (r : List UInt8) (w : World) (H : Hid (N.putL (N.held n) = r)) :
    Calls Tryz.prog 62 #[.int .i64 n] w fun e w' => e = .returned (.string (B r)) ∧ Below w.heap.size w w' := by
  rw [← H.out]; exact Put_any n w
theorem PutInt_any_at (n : Int) (r : List UInt8) (w : World) (H : Hid (N.putL (N.zigN n) = r)) :
    Calls Tryz.prog 67 #[.int .i64 n] w fun e w' => e = .returned (.string (B r)) ∧ Below w.heap.size w w' := by
  rw [← H.out]; exact PutInt_any n w
theorem flat_step {evs : List E.Ev} {k : Nat} (h : k < evs.length) : (evs.take (k + 1)).flatMap E.putE = (evs.take k).flatMap E.putE ++ E.putE evs[k] := by
  rw [List.take_succ_eq_append_getElem h, List.flatMap_append]; simp

set_option maxHeartbeats 4000000 in
set_option maxRecDepth 100000 in
theorem EPutBat_ok (b : E.Bat) (v : Value) (s : List UInt8) (w : World) (hv : ReadsE w v b.events) (hs : E.Small b) (hf : E.fits b = 0) (H : Hid (E.bytes b = s)) :
    Calls Tryz.prog 40 #[batV b v] w fun x w' => x = .returned (.string (B s)) ∧ Below w.heap.size w w' := by
  have HV := Lib.hid hv
  obtain ⟨a, cap, rfl, _, _, hx⟩ := hv
  have HX := Lib.hid hx
  have HSM := Lib.hid hs
  have HF := Lib.hid hf
  obtain ⟨⟨hst, _⟩, hl8, hall⟩ := E.fits_inv hf
  have HALL := Lib.hid (List.all_eq_true.1 hall)
  have hst2 := (nameL_len hst).2
  have HST : Hid (b.stream.length ≤ 1000000) := Lib.hid (by omega)
  obtain ⟨a1, H1⟩ : ∃ a, Hid (N.putT b.stream = a) := ⟨_, Lib.hid rfl⟩
  obtain ⟨a2, H2⟩ : ∃ a, Hid (N.putL (N.zigN b.expect) = a) := ⟨_, Lib.hid rfl⟩
  obtain ⟨a3, H3⟩ : ∃ a, Hid (N.putL (N.held b.session) = a) := ⟨_, Lib.hid rfl⟩
  obtain ⟨a4, H4⟩ : ∃ a, Hid (N.putL (N.held b.seq) = a) := ⟨_, Lib.hid rfl⟩
  obtain ⟨a5, H5⟩ : ∃ a, Hid (N.putL (N.held (b.events.length : Int)) = a) := ⟨_, Lib.hid rfl⟩
  have l1 : a1.length ≤ 200 := by have := N.putT_len (l := b.stream) (by omega); rw [H1.out] at this; omega
  have l2 : a2.length ≤ 6 := by have := N.putL_len6 (N.zigN_le b.expect); rw [H2.out] at this; exact this
  have l3 : a3.length ≤ 6 := by have := N.putL_len6 (N.held_le b.session); rw [H3.out] at this; exact this
  have l4 : a4.length ≤ 6 := by have := N.putL_len6 (N.held_le b.seq); rw [H4.out] at this; exact this
  have l5 : a5.length ≤ 6 := by have := N.putL_len6 (N.held_le (b.events.length : Int)); rw [H5.out] at this; exact this
  have h5 : N.held (b.events.length : Int) = b.events.length := by unfold N.held; omega
  have HS : Hid (s = (((([] ++ a1) ++ a2) ++ a3) ++ a4) ++ a5 ++ b.events.flatMap E.putE) := Lib.hid (by
    rw [← H.out, E.bytes, H1.out, H2.out, H3.out, H4.out, ← h5, H5.out]; simp)
  clear hx hs hf hst hall h5 hst2 H
  go_enter Tryz.func40, Tryz.ntmps40
  go_wp2_with fail
  refine (Fits_at b _ 0 _ (readsE_below HV.out ((Below.refl _ w).alloc (Nat.le_refl _) _)) HSM.out HF).mono ?_
  rintro x w1 ⟨rfl, hb1⟩
  have c0 := box_at hb1 0
  have c1 := box_at hb1 1
  have c2 := box_at hb1 2
  have c3 := box_at hb1 3
  have c4 := box_at hb1 4
  simp at c0 c1 c2 c3 c4
  have hb := below_box hb1
  have HB := Lib.hid hb
  have HX1 := Lib.hid (readsE_below HV.out hb)
  clear hb1 hb
  have HP0 := Lib.hid (PBAt.start w1)
  have d0 := HP0.out.cell c0
  go_wp2_with fail
  refine (PutText_at b.stream a1 _ HST.out H1).mono ?_
  rintro x w2 ⟨rfl, hb2⟩
  have HP1 := Lib.hid (HP0.out.call hb2)
  clear hb2 d0 HP0
  go_wp2_with fail
  refine (HP1.out.write a1 (by simp only [List.length_nil]; omega)).mono ?_
  rintro x w3 ⟨rfl, hp1⟩
  have HQ1 := Lib.hid hp1
  clear hp1 HP1
  have d1 := HQ1.out.cell c1
  go_wp2_with fail
  refine (PutInt_any_at b.expect a2 _ H2).mono ?_
  rintro x w4 ⟨rfl, hb4⟩
  have HP2 := Lib.hid (HQ1.out.call hb4)
  clear hb4 d1 HQ1
  go_wp2_with fail
  refine (HP2.out.write a2 (by simp only [List.length_append, List.length_nil]; omega)).mono ?_
  rintro x w5 ⟨rfl, hp2⟩
  have HQ2 := Lib.hid hp2
  clear hp2 HP2
  have d2 := HQ2.out.cell c2
  go_wp2_with fail
  refine (Put_any_at b.session a3 _ H3).mono ?_
  rintro x w6 ⟨rfl, hb6⟩
  have HP3 := Lib.hid (HQ2.out.call hb6)
  clear hb6 d2 HQ2
  go_wp2_with fail
  refine (HP3.out.write a3 (by simp only [List.length_append, List.length_nil]; omega)).mono ?_
  rintro x w7 ⟨rfl, hp3⟩
  have HQ3 := Lib.hid hp3
  clear hp3 HP3
  have d3 := HQ3.out.cell c3
  go_wp2_with fail
  refine (Put_any_at b.seq a4 _ H4).mono ?_
  rintro x w8 ⟨rfl, hb8⟩
  have HP4 := Lib.hid (HQ3.out.call hb8)
  clear hb8 d3 HQ3
  go_wp2_with fail
  refine (HP4.out.write a4 (by simp only [List.length_append, List.length_nil]; omega)).mono ?_
  rintro x w9 ⟨rfl, hp4⟩
  have HQ4 := Lib.hid hp4
  clear hp4 HP4
  have d4 := HQ4.out.cell c4
  go_wp2_with fail
  refine (Put_any_at (b.events.length : Int) a5 _ H5).mono ?_
  rintro x w10 ⟨rfl, hb10⟩
  have HP5 := Lib.hid (HQ4.out.call hb10)
  clear hb10 d4 HQ4
  go_wp2_with fail
  refine (HP5.out.write a5 (by simp only [List.length_append, List.length_nil]; omega)).mono ?_
  rintro x w11 ⟨rfl, hp5⟩
  have HQ5 := Lib.hid hp5
  clear hp5 HP5
  generalize hh : (((([] ++ a1) ++ a2) ++ a3) ++ a4) ++ a5 = hd at *
  have lhd : hd.length ≤ 1000 := by rw [← hh]; simp only [List.length_append, List.length_nil]; omega
  clear hh l1 l2 l3 l4 l5 H1 H2 H3 H4 H5 c0 c1 c2 c3
  have HC4 := Lib.hid c4
  have d4 := HQ5.out.cell c4
  clear c4
  have HXX := Lib.hid HX1.out
  generalize hev : b.events = evs at *
  clear hev HX HV HX1
  go_wp2
  go_loopw [33] (fun i wr => ∃ k : Nat, i = .int .i64 k ∧ k ≤ evs.length ∧ PBAt w1 (hd ++ (evs.take k).flatMap E.putE) wr) (fun i _ => evs.length - (intOf i).toNat)
  case atStart => exact ⟨0, rfl, Nat.zero_le _, by simpa using HQ5.out⟩
  case round =>
    obtain ⟨k, rfl, hk, hrel⟩ := hrel
    have HREL := Lib.hid hrel; clear hrel
    have hlen : (hd ++ (evs.take k).flatMap E.putE).length ≤ 50000 := by
      have := E.flat_len (evs.take k) fun e he => by
        have := E.right_bd (HALL.out e (List.mem_of_mem_take he))
        omega
      rw [List.length_append]
      have h2 : (evs.take k).length ≤ k := by rw [List.length_take]; omega
      omega
    by_cases hlt : k < evs.length
    · obtain ⟨a0, cap0, hq, _, _, hxx⟩ := HXX.out
      cases hq
      obtain ⟨b1, o1, rfl, e0, e1⟩ := hxx k hlt
      have x0 := HREL.out.cell e0
      have x1 := HREL.out.cell e1
      have hk1 : (k : Int) < (evs.length : Int) := by omega
      have HRT := Lib.hid (HALL.out _ (List.getElem_mem hlt))
      have HFS := Lib.hid (flat_step hlt)
      have hbd := E.right_bd HRT.out
      obtain ⟨p, HPE⟩ : ∃ p, Hid (E.putE evs[k] = p) := ⟨_, Lib.hid rfl⟩
      have hpl : p.length ≤ 2012 := by have := E.putE_len (e := evs[k]) (by omega) (by omega); rw [HPE.out] at this; exact this
      have HPV := Lib.hid (show E.putEv evs[k] = p by rw [E.putEv_ok HRT.out]; exact HPE.out)
      rw [HPE.out] at HFS
      clear e0 e1 hxx
      generalize evs[k] = e at *
      generalize hac : hd ++ (evs.take k).flatMap E.putE = acc at *
      have HACC : Hid (hd ++ (evs.take (k + 1)).flatMap E.putE = acc ++ p) := Lib.hid (by rw [HFS.out, ← List.append_assoc, hac])
      clear hac HFS
      have HRN := Lib.hid (HREL.out.new (.cells #[.string (B e.1), .string (B e.2)] 55))
      go_wp2_with fail
      refine (EPut_at e p _ (by omega) (by omega) HPV).mono ?_
      rintro x w20 ⟨rfl, hb20⟩
      have HR20 := Lib.hid (HRN.out.call hb20)
      clear hb20 x0 x1
      go_wp2_with fail
      refine (HR20.out.write p (by omega)).mono ?_
      rintro x w21 ⟨rfl, hr21⟩
      have HR21 := Lib.hid hr21
      clear hr21
      go_wp2
      go_roundw
      case rel => exact ⟨k + 1, by go_num, by omega, by rw [HACC.out]; exact HR21.out⟩
      case measure => simp [intOf]; omega
    · have HT := Lib.hid (show s = hd ++ (evs.take k).flatMap E.putE by rw [HS.out, List.take_of_length_le (by omega)])
      generalize hd ++ (evs.take k).flatMap E.putE = acc at *
      go_wp2_with fail
      refine (Tryz.builderString w1.heap.size w1.heap.size acc wr HREL.out.bd HREL.out.bel.size).mono ?_
      rintro x w22 ⟨rfl, hb22⟩
      have hb23 := HB.out.trans ((HREL.out.bel.trans hb22).mono HB.out.size)
      clear hb22
      go_wp2
      go_ret
      rw [HT.out]
      exact ⟨rfl, hb23⟩

set_option maxHeartbeats 1000000 in
set_option maxRecDepth 100000 in
theorem EPutBat_at (b : E.Bat) (v : Value) (s : List UInt8) (w : World) (hv : ReadsE w v b.events) (hs : E.Small b) (H : Hid (E.putBat b = s)) :
    Calls Tryz.prog 40 #[batV b v] w fun x w' => x = .returned (.string (B s)) ∧ Below w.heap.size w w' := by
  by_cases hf : E.fits b = 0
  · exact EPutBat_ok b v s w hv hs hf (Lib.hid (by rw [← E.putBat_ok hf]; exact H.out))
  · have HE := Lib.hid (show s = [] by rw [← H.out]; exact E.putBat_bad hf)
    obtain ⟨c, HC⟩ : ∃ c, Hid (E.fits b = c) := ⟨_, Lib.hid rfl⟩
    rw [HC.out] at hf
    have hc : ((c : Int) == 0) = false := beq_eq_false_iff_ne.2 (by omega)
    have HV := Lib.hid hv
    have HSM := Lib.hid hs
    obtain ⟨a, cap, rfl, _, _, _⟩ := hv
    clear hs H
    go_enter Tryz.func40, Tryz.ntmps40
    go_wp2_with fail
    refine (Fits_at b _ c _ (readsE_below HV.out ((Below.refl _ w).alloc (Nat.le_refl _) _)) HSM.out HC).mono ?_
    rintro x w1 ⟨rfl, hb1⟩
    have hb := below_box hb1
    clear hb1
    go_wp2
    go_ret
    rw [HE.out]
    exact ⟨rfl, hb⟩
end Go.Proofs.YtljcgpdjhjkciaaGreat
