/-
  Own texts, joined: EventProg2 EventProg3 EventRef2
-/
import Derived.Test.YtmfhipjceeijmaaGreatDoorBun22
import Derived.Test.YtmfhipjceeijmaaGreatDoorBun17

/-
  Walks of package event: Put, Same.
-/
namespace Go.Proofs.YtmfhipjceeijmaaGreatDoor
open Go.RowKit
attribute [local go_sem] ext_Bd ext_Bl ext_Bt toList_B add_B size_B get_Bt

theorem cat_run {a c : List UInt8} (h : a.length + c.length ≤ 1000000) (w' : World) : (Op.stringOp .add (B a) (B c)).run Tryz.prog w' = .ok (.string (B (a ++ c))) w' := by
  rw [run_string_add_sum w' (B a) (B c) (by rw [size_B, size_B]; omega), add_B]
theorem PutText_at (l r : List UInt8) (w : World) (h : l.length ≤ 1000000) (H : Hid (N.putT l = r)) :
    Calls Tryz.prog 177 #[.string (B l)] w fun e w' => e = .returned (.string (B r)) ∧ Below w.heap.size w w' := by
  rw [← H.out]; exact PutText_l l w h

set_option maxHeartbeats 2000000 in
set_option maxRecDepth 100000 in
theorem EPut_at (e : E.Ev) (s : List UInt8) (w : World) (h1 : e.1.length ≤ 9223372036854775807) (h2 : e.2.length ≤ 9223372036854775807) (H : Hid (E.putEv e = s)) :
    Calls Tryz.prog 179 #[evV e] w fun x w' => x = .returned (.string (B s)) ∧ Below w.heap.size w w' := by
  obtain ⟨k, d⟩ := e
  dsimp only at h1 h2
  cases hr : E.right (k, d)
  · have HE := Lib.hid (show s = [] by rw [← H.out]; exact E.putEv_bad hr)
    have HQ := Lib.hid hr; clear hr
    go_enter Tryz.func179, Tryz.ntmps179
    go_wp2_with fail
    refine (Right_at (k, d) false _ (by omega) (by omega) HQ).mono ?_
    rintro x w1 ⟨rfl, hb1⟩
    have hb := below_box hb1
    clear hb1
    go_wp2
    go_ret
    rw [HE.out]
    exact ⟨rfl, hb⟩
  · obtain ⟨a, HA⟩ : ∃ a, Hid (N.putT k = a) := ⟨_, Lib.hid rfl⟩
    obtain ⟨c, HC⟩ : ∃ c, Hid (N.putT d = c) := ⟨_, Lib.hid rfl⟩
    have hbd := E.right_bd hr
    dsimp only at hbd
    have hal : a.length ≤ 100006 := by have := N.putT_len (l := k) (by omega); rw [HA.out] at this; omega
    have hcl : c.length ≤ 100006 := by have := N.putT_len (l := d) (by omega); rw [HC.out] at this; omega
    have HE := Lib.hid (show s = a ++ c by rw [← H.out, E.putEv_ok hr]; unfold E.putE; rw [HA.out, HC.out])
    have HQ := Lib.hid hr; clear hr H
    have hk6 : k.length ≤ 1000000 := by omega
    have hd6 : d.length ≤ 1000000 := by omega
    clear hbd
    have hcat : ∀ w' : World, (Op.stringOp .add (B a) (B c)).run Tryz.prog w' = .ok (.string (B (a ++ c))) w' := fun w' => by
      rw [run_string_add_sum w' (B a) (B c) (by rw [size_B, size_B]; omega), add_B]
    go_enter Tryz.func179, Tryz.ntmps179
    go_wp2_with fail
    refine (Right_at (k, d) true _ (by omega) (by omega) HQ).mono ?_
    rintro x w1 ⟨rfl, hb1⟩
    have c0 := box_at hb1 0
    have c1 := box_at hb1 1
    simp at c0 c1
    have hS : BoxB w w.heap.size (.string (B k)) (.string (B d)) w1 := ⟨c0, c1, below_box hb1⟩
    clear hb1 c0 c1
    go_wp2
    unfold BoxB at hS
    go_region_held3 (fun w' => w'.cell? ⟨w.heap.size, 0, none⟩ = some (.string (B k)) ∧ w'.cell? ⟨w.heap.size, 1, none⟩ = some (.string (B d)) ∧ KeptB w w')
      (first | assumption | exact boxB_drew (by assumption) | exact boxB_call (by assumption) (by assumption))
      (first
        | (go_at_call 177; with_reducible refine (PutText_at k a _ hk6 HA).mono ?_; rintro x w4 ⟨rfl, hb4⟩)
        | (go_at_call 177; with_reducible refine (PutText_at d c _ hd6 HC).mono ?_; rintro x w5 ⟨rfl, hb5⟩))
    rename_i hHeld
    have HB := Lib.hid hHeld.2.2
    clear hHeld
    go_wp2
    go_ret
    rw [HE.out]
    exact ⟨rfl, HB.out⟩


theorem two_below (w : World) (o1 o2 : Obj) : Below w.heap.size w ((w.alloc o1).alloc o2) := ((Below.refl _ w).alloc (Nat.le_refl _) o1).alloc (by simp) o2
end Go.Proofs.YtmfhipjceeijmaaGreatDoor

/-
  The walk of PutBatch of package event.
-/
namespace Go.Proofs.YtmfhipjceeijmaaGreatDoor
open Go.RowKit
attribute [local go_sem] ext_Bd ext_Bl ext_Bt toList_B add_B size_B get_Bt

/-- A builder that was made behind world w1, with what was written. -/
structure PBAt (w1 : World) (acc : List UInt8) (wr : World) : Prop where
  bd : Lib.IsBuilder 155 5 w1.heap.size w1.heap.size (Lib.byteCells acc) wr
  bel : Below w1.heap.size w1 wr
theorem PBAt.start (w1 : World) : PBAt w1 [] (w1.alloc (.cells #[.pointer none, .slice none 0 0] 155)) :=
  ⟨Lib.fresh_isBuilder _ _ w1, (Below.refl _ w1).alloc (Nat.le_refl _) _⟩
theorem PBAt.call {w1 wr w2 : World} {acc : List UInt8} (h : PBAt w1 acc wr) (hb : Below wr.heap.size wr w2) : PBAt w1 acc w2 := ⟨builder_below h.bd hb, h.bel.trans (hb.mono h.bel.size)⟩
theorem PBAt.new {w1 wr : World} {acc : List UInt8} (h : PBAt w1 acc wr) (o : Obj) : PBAt w1 acc (wr.alloc o) := h.call ((Below.refl _ wr).alloc (Nat.le_refl _) o)
theorem PBAt.write {w1 wr : World} {acc : List UInt8} (h : PBAt w1 acc wr) (s : List UInt8) (hl : acc.length + s.length ≤ 1000000) :
    Calls Tryz.prog 116 #[.pointer (some ⟨w1.heap.size, 0, none⟩), .string (B s)] wr fun e w' => e = .returned (.tuple #[.int .i64 s.length, .nilIface]) ∧ PBAt w1 (acc ++ s) w' := by
  refine (Tryz.builderWrite w1.heap.size w1.heap.size _ (B s) wr h.bd (by rw [Lib.byteCells_length, size_B]; omega) h.bel.size).mono ?_
  rintro e w2 ⟨rfl, hbd, hb⟩
  exact ⟨by rw [size_B], .inr (by rw [Lib.byteCells_append, ← str_B s]; exact hbd), h.bel.trans hb⟩
theorem PBAt.cell {w1 wr : World} {acc : List UInt8} (h : PBAt w1 acc wr) {p : Addr} {u : Value} (hc : w1.cell? p = some u) : wr.cell? p = some u := by
  rw [h.bel.cell (World.block_lt_of_cell? w1 _ hc)]; exact hc
theorem Put_any_at (n : Int) (r : List UInt8) (w : World) (H : Hid (N.putL (N.held n) = r)) :
    Calls Tryz.prog 84 #[.int .i64 n] w fun e w' => e = .returned (.string (B r)) ∧ Below w.heap.size w w' := by
  rw [← H.out]; exact Put_any n w
theorem PutInt_any_at (n : Int) (r : List UInt8) (w : World) (H : Hid (N.putL (N.zigN n) = r)) :
    Calls Tryz.prog 178 #[.int .i64 n] w fun e w' => e = .returned (.string (B r)) ∧ Below w.heap.size w w' := by
  rw [← H.out]; exact PutInt_any n w
theorem flat_step {evs : List E.Ev} {k : Nat} (h : k < evs.length) : (evs.take (k + 1)).flatMap E.putE = (evs.take k).flatMap E.putE ++ E.putE evs[k] := by
  rw [List.take_succ_eq_append_getElem h, List.flatMap_append]; simp

set_option maxHeartbeats 4000000 in
set_option maxRecDepth 100000 in
theorem EPutBat_ok (b : E.Bat) (v : Value) (s : List UInt8) (w : World) (hv : ReadsE w v b.events) (hs : E.Small b) (hf : E.fits b = 0) (H : Hid (E.bytes b = s)) :
    Calls Tryz.prog 146 #[batV b v] w fun x w' => x = .returned (.string (B s)) ∧ Below w.heap.size w w' := by
  have HV := Lib.hid hv
  obtain ⟨a, cap, rfl, _, _, hx⟩ := hv
  have HX := Lib.hid hx
  have HSM := Lib.hid hs
  have HF := Lib.hid hf
  obtain ⟨⟨hst, _⟩, hl8, hall⟩ := E.fits_inv hf
  have HALL := Lib.hid (List.all_eq_true.1 hall)
  have hst2 := (nameL_len hst).2
  have HST : Hid (b.stream.length ≤ 1000000) := Lib.hid (by omega)
  obtain ⟨a1, H1⟩ : ∃ a, Hid (N.putT b.stream = a) := ⟨_, Lib.hid rfl⟩
  obtain ⟨a2, H2⟩ : ∃ a, Hid (N.putL (N.zigN b.expect) = a) := ⟨_, Lib.hid rfl⟩
  obtain ⟨a3, H3⟩ : ∃ a, Hid (N.putL (N.held b.session) = a) := ⟨_, Lib.hid rfl⟩
  obtain ⟨a4, H4⟩ : ∃ a, Hid (N.putL (N.held b.seq) = a) := ⟨_, Lib.hid rfl⟩
  obtain ⟨a5, H5⟩ : ∃ a, Hid (N.putL (N.held (b.events.length : Int)) = a) := ⟨_, Lib.hid rfl⟩
  have l1 : a1.length ≤ 200 := by have := N.putT_len (l := b.stream) (by omega); rw [H1.out] at this; omega
  have l2 : a2.length ≤ 6 := by have := N.putL_len6 (N.zigN_le b.expect); rw [H2.out] at this; exact this
  have l3 : a3.length ≤ 6 := by have := N.putL_len6 (N.held_le b.session); rw [H3.out] at this; exact this
  have l4 : a4.length ≤ 6 := by have := N.putL_len6 (N.held_le b.seq); rw [H4.out] at this; exact this
  have l5 : a5.length ≤ 6 := by have := N.putL_len6 (N.held_le (b.events.length : Int)); rw [H5.out] at this; exact this
  have h5 : N.held (b.events.length : Int) = b.events.length := by unfold N.held; omega
  have HS : Hid (s = (((([] ++ a1) ++ a2) ++ a3) ++ a4) ++ a5 ++ b.events.flatMap E.putE) := Lib.hid (by
    rw [← H.out, E.bytes, H1.out, H2.out, H3.out, H4.out, ← h5, H5.out]; simp)
  clear hx hs hf hst hall h5 hst2 H
  go_enter Tryz.func146, Tryz.ntmps146
  go_wp2_with fail
  refine (Fits_at b _ 0 _ (readsE_below HV.out ((Below.refl _ w).alloc (Nat.le_refl _) _)) HSM.out HF).mono ?_
  rintro x w1 ⟨rfl, hb1⟩
  have c0 := box_at hb1 0
  have c1 := box_at hb1 1
  have c2 := box_at hb1 2
  have c3 := box_at hb1 3
  have c4 := box_at hb1 4
  simp at c0 c1 c2 c3 c4
  have hb := below_box hb1
  have HB := Lib.hid hb
  have HX1 := Lib.hid (readsE_below HV.out hb)
  clear hb1 hb
  have HP0 := Lib.hid (PBAt.start w1)
  have d0 := HP0.out.cell c0
  go_wp2_with fail
  refine (PutText_at b.stream a1 _ HST.out H1).mono ?_
  rintro x w2 ⟨rfl, hb2⟩
  have HP1 := Lib.hid (HP0.out.call hb2)
  clear hb2 d0 HP0
  go_wp2_with fail
  refine (HP1.out.write a1 (by simp only [List.length_nil]; omega)).mono ?_
  rintro x w3 ⟨rfl, hp1⟩
  have HQ1 := Lib.hid hp1
  clear hp1 HP1
  have d1 := HQ1.out.cell c1
  go_wp2_with fail
  refine (PutInt_any_at b.expect a2 _ H2).mono ?_
  rintro x w4 ⟨rfl, hb4⟩
  have HP2 := Lib.hid (HQ1.out.call hb4)
  clear hb4 d1 HQ1
  go_wp2_with fail
  refine (HP2.out.write a2 (by simp only [List.length_append, List.length_nil]; omega)).mono ?_
  rintro x w5 ⟨rfl, hp2⟩
  have HQ2 := Lib.hid hp2
  clear hp2 HP2
  have d2 := HQ2.out.cell c2
  go_wp2_with fail
  refine (Put_any_at b.session a3 _ H3).mono ?_
  rintro x w6 ⟨rfl, hb6⟩
  have HP3 := Lib.hid (HQ2.out.call hb6)
  clear hb6 d2 HQ2
  go_wp2_with fail
  refine (HP3.out.write a3 (by simp only [List.length_append, List.length_nil]; omega)).mono ?_
  rintro x w7 ⟨rfl, hp3⟩
  have HQ3 := Lib.hid hp3
  clear hp3 HP3
  have d3 := HQ3.out.cell c3
  go_wp2_with fail
  refine (Put_any_at b.seq a4 _ H4).mono ?_
  rintro x w8 ⟨rfl, hb8⟩
  have HP4 := Lib.hid (HQ3.out.call hb8)
  clear hb8 d3 HQ3
  go_wp2_with fail
  refine (HP4.out.write a4 (by simp only [List.length_append, List.length_nil]; omega)).mono ?_
  rintro x w9 ⟨rfl, hp4⟩
  have HQ4 := Lib.hid hp4
  clear hp4 HP4
  have d4 := HQ4.out.cell c4
  go_wp2_with fail
  refine (Put_any_at (b.events.length : Int) a5 _ H5).mono ?_
  rintro x w10 ⟨rfl, hb10⟩
  have HP5 := Lib.hid (HQ4.out.call hb10)
  clear hb10 d4 HQ4
  go_wp2_with fail
  refine (HP5.out.write a5 (by simp only [List.length_append, List.length_nil]; omega)).mono ?_
  rintro x w11 ⟨rfl, hp5⟩
  have HQ5 := Lib.hid hp5
  clear hp5 HP5
  generalize hh : (((([] ++ a1) ++ a2) ++ a3) ++ a4) ++ a5 = hd at *
  have lhd : hd.length ≤ 1000 := by rw [← hh]; simp only [List.length_append, List.length_nil]; omega
  clear hh l1 l2 l3 l4 l5 H1 H2 H3 H4 H5 c0 c1 c2 c3
  have HC4 := Lib.hid c4
  have d4 := HQ5.out.cell c4
  clear c4
  have HXX := Lib.hid HX1.out
  generalize hev : b.events = evs at *
  clear hev HX HV HX1
  go_wp2
  go_loopw [33] (fun i wr => ∃ k : Nat, i = .int .i64 k ∧ k ≤ evs.length ∧ PBAt w1 (hd ++ (evs.take k).flatMap E.putE) wr) (fun i _ => evs.length - (intOf i).toNat)
  case atStart => exact ⟨0, rfl, Nat.zero_le _, by simpa using HQ5.out⟩
  case round =>
    obtain ⟨k, rfl, hk, hrel⟩ := hrel
    have HREL := Lib.hid hrel; clear hrel
    have hlen : (hd ++ (evs.take k).flatMap E.putE).length ≤ 50000 := by
      have := E.flat_len (evs.take k) fun e he => by
        have := E.right_bd (HALL.out e (List.mem_of_mem_take he))
        omega
      rw [List.length_append]
      have h2 : (evs.take k).length ≤ k := by rw [List.length_take]; omega
      omega
    by_cases hlt : k < evs.length
    · obtain ⟨a0, cap0, hq, _, _, hxx⟩ := HXX.out
      cases hq
      obtain ⟨b1, o1, rfl, e0, e1⟩ := hxx k hlt
      have x0 := HREL.out.cell e0
      have x1 := HREL.out.cell e1
      have hk1 : (k : Int) < (evs.length : Int) := by omega
      have HRT := Lib.hid (HALL.out _ (List.getElem_mem hlt))
      have HFS := Lib.hid (flat_step hlt)
      have hbd := E.right_bd HRT.out
      obtain ⟨p, HPE⟩ : ∃ p, Hid (E.putE evs[k] = p) := ⟨_, Lib.hid rfl⟩
      have hpl : p.length ≤ 2012 := by have := E.putE_len (e := evs[k]) (by omega) (by omega); rw [HPE.out] at this; exact this
      have HPV := Lib.hid (show E.putEv evs[k] = p by rw [E.putEv_ok HRT.out]; exact HPE.out)
      rw [HPE.out] at HFS
      clear e0 e1 hxx
      generalize evs[k] = e at *
      generalize hac : hd ++ (evs.take k).flatMap E.putE = acc at *
      have HACC : Hid (hd ++ (evs.take (k + 1)).flatMap E.putE = acc ++ p) := Lib.hid (by rw [HFS.out, ← List.append_assoc, hac])
      clear hac HFS
      have HRN := Lib.hid (HREL.out.new (.cells #[.string (B e.1), .string (B e.2)] 92))
      go_wp2_with fail
      refine (EPut_at e p _ (by omega) (by omega) HPV).mono ?_
      rintro x w20 ⟨rfl, hb20⟩
      have HR20 := Lib.hid (HRN.out.call hb20)
      clear hb20 x0 x1
      go_wp2_with fail
      refine (HR20.out.write p (by omega)).mono ?_
      rintro x w21 ⟨rfl, hr21⟩
      have HR21 := Lib.hid hr21
      clear hr21
      go_wp2
      go_roundw
      case rel => exact ⟨k + 1, by go_num, by omega, by rw [HACC.out]; exact HR21.out⟩
      case measure => simp [intOf]; omega
    · have HT := Lib.hid (show s = hd ++ (evs.take k).flatMap E.putE by rw [HS.out, List.take_of_length_le (by omega)])
      generalize hd ++ (evs.take k).flatMap E.putE = acc at *
      go_wp2_with fail
      refine (Tryz.builderString w1.heap.size w1.heap.size acc wr HREL.out.bd HREL.out.bel.size).mono ?_
      rintro x w22 ⟨rfl, hb22⟩
      have hb23 := HB.out.trans ((HREL.out.bel.trans hb22).mono HB.out.size)
      clear hb22
      go_wp2
      go_ret
      rw [HT.out]
      exact ⟨rfl, hb23⟩

set_option maxHeartbeats 1000000 in
set_option maxRecDepth 100000 in
theorem EPutBat_at (b : E.Bat) (v : Value) (s : List UInt8) (w : World) (hv : ReadsE w v b.events) (hs : E.Small b) (H : Hid (E.putBat b = s)) :
    Calls Tryz.prog 146 #[batV b v] w fun x w' => x = .returned (.string (B s)) ∧ Below w.heap.size w w' := by
  by_cases hf : E.fits b = 0
  · exact EPutBat_ok b v s w hv hs hf (Lib.hid (by rw [← E.putBat_ok hf]; exact H.out))
  · have HE := Lib.hid (show s = [] by rw [← H.out]; exact E.putBat_bad hf)
    obtain ⟨c, HC⟩ : ∃ c, Hid (E.fits b = c) := ⟨_, Lib.hid rfl⟩
    rw [HC.out] at hf
    have hc : ((c : Int) == 0) = false := beq_eq_false_iff_ne.2 (by omega)
    have HV := Lib.hid hv
    have HSM := Lib.hid hs
    obtain ⟨a, cap, rfl, _, _, _⟩ := hv
    clear hs H
    go_enter Tryz.func146, Tryz.ntmps146
    go_wp2_with fail
    refine (Fits_at b _ c _ (readsE_below HV.out ((Below.refl _ w).alloc (Nat.le_refl _) _)) HSM.out HC).mono ?_
    rintro x w1 ⟨rfl, hb1⟩
    have hb := below_box hb1
    clear hb1
    go_wp2
    go_ret
    rw [HE.out]
    exact ⟨rfl, hb⟩
end Go.Proofs.YtmfhipjceeijmaaGreatDoor

/-
  Walks of the document's answer to layer 5 (package bucketlineref5): bytes, Put, PutBatch.
-/
namespace Go.Proofs.YtmfhipjceeijmaaGreatDoor
open Go.RowKit
attribute [local go_sem] ext_Bd ext_Bl ext_Bt toList_B add_B size_B get_Bt

theorem refPutText_at (l r : List UInt8) (w : World) (h : l.length ≤ 1000000) (H : Hid (N.putT l = r)) :
    Calls Tryz.prog 139 #[.string (B l)] w fun e w' => e = .returned (.string (B r)) ∧ Below w.heap.size w w' := by
  rw [← H.out]; exact refPutText_l l w h

set_option maxHeartbeats 2000000 in
set_option maxRecDepth 100000 in
theorem refBytes_l (e : E.Ev) (w : World) (h1 : e.1.length ≤ 1000) (h2 : e.2.length ≤ 1000) :
    Calls Tryz.prog 141 #[evV e] w fun r w' => r = .returned (.string (B (E.putE e))) ∧ Below w.heap.size w w' := by
  obtain ⟨k, d⟩ := e
  dsimp only at h1 h2
  obtain ⟨a, HA⟩ : ∃ a, Hid (N.putT k = a) := ⟨_, Lib.hid rfl⟩
  obtain ⟨c, HC⟩ : ∃ c, Hid (N.putT d = c) := ⟨_, Lib.hid rfl⟩
  have hal : a.length ≤ 1006 := by have := N.putT_len (l := k) (by omega); rw [HA.out] at this; omega
  have hcl : c.length ≤ 1006 := by have := N.putT_len (l := d) (by omega); rw [HC.out] at this; omega
  have HP : Hid (E.putE (k, d) = a ++ c) := Lib.hid (by unfold E.putE; rw [HA.out, HC.out])
  obtain ⟨r, HR⟩ : ∃ r, Hid (E.putE (k, d) = r) := ⟨_, Lib.hid rfl⟩
  rw [HR.out]
  have hk6 : k.length ≤ 1000000 := by omega
  have hd6 : d.length ≤ 1000000 := by omega
  have hcat : ∀ w' : World, (Op.stringOp .add (B a) (B c)).run Tryz.prog w' = .ok (.string (B (a ++ c))) w' := fun w' => by
    rw [run_string_add_sum w' (B a) (B c) (by rw [size_B, size_B]; omega), add_B]
  go_enter Tryz.func141, Tryz.ntmps141
  go_wp2
  have hS : BoxB w w.heap.size (.string (B k)) (.string (B d)) (w.alloc (.cells #[.string (B k), .string (B d)] 92)) :=
    ⟨by rw [World.cell?_alloc_new]; rfl, by rw [World.cell?_alloc_new]; rfl, (Below.refl _ w).alloc (Nat.le_refl _) _⟩
  generalize w.alloc (.cells #[.string (B k), .string (B d)] 92) = w1 at *
  unfold BoxB at hS
  go_region_held3 (fun w' => w'.cell? ⟨w.heap.size, 0, none⟩ = some (.string (B k)) ∧ w'.cell? ⟨w.heap.size, 1, none⟩ = some (.string (B d)) ∧ KeptB w w')
    (first | assumption | exact boxB_drew (by assumption) | exact boxB_call (by assumption) (by assumption))
    (first
      | (go_at_call 139; with_reducible refine (refPutText_at k a _ hk6 HA).mono ?_; rintro x w4 ⟨rfl, hb4⟩)
      | (go_at_call 139; with_reducible refine (refPutText_at d c _ hd6 HC).mono ?_; rintro x w5 ⟨rfl, hb5⟩))
  rename_i hHeld
  have HB := Lib.hid hHeld.2.2
  have HE := Lib.hid (show r = a ++ c by rw [← HR.out]; exact HP.out)
  clear hHeld
  go_wp2
  go_ret
  rw [HE.out]
  exact ⟨rfl, HB.out⟩

def BoxF (w0 : World) (g : Nat) (x0 x1 x2 x3 x4 : Value) (a : World) : Prop :=
  a.cell? ⟨g, 0, none⟩ = some x0 ∧ a.cell? ⟨g, 1, none⟩ = some x1 ∧ a.cell? ⟨g, 2, none⟩ = some x2 ∧ a.cell? ⟨g, 3, none⟩ = some x3 ∧ a.cell? ⟨g, 4, none⟩ = some x4 ∧ KeptB w0 a
theorem boxF_drew {w0 : World} {g : Nat} {x0 x1 x2 x3 x4 : Value} {a : World} (h : BoxF w0 g x0 x1 x2 x3 x4 a) : BoxF w0 g x0 x1 x2 x3 x4 a.drew := ⟨h.1, h.2.1, h.2.2.1, h.2.2.2.1, h.2.2.2.2.1, keptB_drew h.2.2.2.2.2⟩
theorem boxF_call {w0 : World} {g : Nat} {x0 x1 x2 x3 x4 : Value} {a b : World} (h : BoxF w0 g x0 x1 x2 x3 x4 a) (hb : Below a.heap.size a b) : BoxF w0 g x0 x1 x2 x3 x4 b := by
  obtain ⟨h0, h1, h2, h3, h4, hk⟩ := h
  exact ⟨by rw [hb.cell (World.block_lt_of_cell? a _ h0)]; exact h0, by rw [hb.cell (World.block_lt_of_cell? a _ h1)]; exact h1, by rw [hb.cell (World.block_lt_of_cell? a _ h2)]; exact h2,
    by rw [hb.cell (World.block_lt_of_cell? a _ h3)]; exact h3, by rw [hb.cell (World.block_lt_of_cell? a _ h4)]; exact h4, keptB_call hk hb⟩
theorem refNPut_at (n : Int) (r : List UInt8) (w : World) (H : Hid (N.putL (N.held n) = r)) :
    Calls Tryz.prog 80 #[.int .i64 n] w fun e w' => e = .returned (.string (B r)) ∧ Below w.heap.size w w' := by
  rw [← H.out]; exact refPut_any n w
theorem refNInt_at (n : Int) (r : List UInt8) (w : World) (H : Hid (N.putL (N.zigN n) = r)) :
    Calls Tryz.prog 140 #[.int .i64 n] w fun e w' => e = .returned (.string (B r)) ∧ Below w.heap.size w w' := by
  rw [← H.out]; exact refPutInt_any n w

set_option maxHeartbeats 4000000 in
set_option maxRecDepth 100000 in
theorem refPutBat_ok (b : E.Bat) (v : Value) (w : World) (hv : ReadsE w v b.events) (hf : E.fits b = 0) :
    Calls Tryz.prog 113 #[batV b v] w fun r w' => r = .returned (.string (B (E.bytes b))) ∧ Below w.heap.size w w' := by
  obtain ⟨hh, h8, hr⟩ := E.fits_inv hf
  have hsl := (nameL_len hh.1).2
  have hev : ∀ e ∈ b.events, e.1.length ≤ 128 ∧ e.2.length ≤ 200 := fun e he => by
    have := E.right_bd (List.all_eq_true.1 hr e he)
    exact ⟨this.1, this.2.1⟩
  have HEV := Lib.hid hev; clear hev hr hh
  have hv2 := hv
  obtain ⟨a, cap, rfl, hcap, _, hx⟩ := hv
  have HX := Lib.hid hx; clear hx hcap
  have HF := Lib.hid hf; clear hf
  have HV := Lib.hid hv2; clear hv2
  obtain ⟨a1, H1⟩ : ∃ a1, Hid (N.putT b.stream = a1) := ⟨_, Lib.hid rfl⟩
  obtain ⟨a2, H2⟩ : ∃ a2, Hid (N.putL (N.zigN b.expect) = a2) := ⟨_, Lib.hid rfl⟩
  obtain ⟨a3, H3⟩ : ∃ a3, Hid (N.putL (N.held b.session) = a3) := ⟨_, Lib.hid rfl⟩
  obtain ⟨a4, H4⟩ : ∃ a4, Hid (N.putL (N.held b.seq) = a4) := ⟨_, Lib.hid rfl⟩
  obtain ⟨a5, H5⟩ : ∃ a5, Hid (N.putL (N.held (b.events.length : Int)) = a5) := ⟨_, Lib.hid rfl⟩
  have l1 : a1.length ≤ 134 := by have := N.putT_len (l := b.stream) (by omega); rw [H1.out] at this; omega
  have l2 : a2.length ≤ 6 := by have := N.putL_len6 (N.zigN_le b.expect); rw [H2.out] at this; exact this
  have l3 : a3.length ≤ 6 := by have := N.putL_len6 (N.held_le b.session); rw [H3.out] at this; exact this
  have l4 : a4.length ≤ 6 := by have := N.putL_len6 (N.held_le b.seq); rw [H4.out] at this; exact this
  have l5 : a5.length ≤ 6 := by have := N.putL_len6 (N.held_le (b.events.length : Int)); rw [H5.out] at this; exact this
  have hst : b.stream.length ≤ 1000000 := by omega
  obtain ⟨r, HR⟩ : ∃ r, Hid (E.bytes b = r) := ⟨_, Lib.hid rfl⟩
  rw [HR.out]
  have HE := Lib.hid (show r = a1 ++ (a2 ++ (a3 ++ (a4 ++ (a5 ++ b.events.flatMap E.putE)))) by
    rw [← HR.out]; unfold E.bytes; rw [H1.out, H2.out, H3.out, H4.out, ← H5.out, show N.held (b.events.length : Int) = b.events.length by unfold N.held; omega])
  have k1 := cat_run (a := a1) (c := a2) (by omega)
  have k2 := cat_run (a := a1 ++ a2) (c := a3) (by simp only [List.length_append]; omega)
  have k3 := cat_run (a := a1 ++ a2 ++ a3) (c := a4) (by simp only [List.length_append]; omega)
  have k4 := cat_run (a := a1 ++ a2 ++ a3 ++ a4) (c := a5) (by simp only [List.length_append]; omega)
  simp only [List.append_assoc] at k1 k2 k3 k4
  go_enter Tryz.func113, Tryz.ntmps113
  go_wp2_with fail
  refine (refFits_at b _ 0 _ (readsE_below HV.out ((Below.refl _ w).alloc (Nat.le_refl _) _)) (by omega) (fun _ e he => by have := HEV.out e he; omega) HF).mono ?_
  rintro x w1 ⟨rfl, hb1⟩
  have hS : BoxF w w.heap.size (.string (B b.stream)) (.int .i64 b.expect) (.int .i64 b.session) (.int .i64 b.seq) (.slice a b.events.length cap) w1 :=
    ⟨by rw [box_at hb1]; rfl, by rw [box_at hb1]; rfl, by rw [box_at hb1]; rfl, by rw [box_at hb1]; rfl, by rw [box_at hb1]; rfl, below_box hb1⟩
  have hg1 : w.heap.size < w1.heap.size := by have := hb1.size; simp at this; omega
  clear hb1 HR HV
  unfold BoxF at hS
  generalize b.stream = st at *
  generalize b.expect = ex at *
  generalize b.session = se at *
  generalize b.seq = sq at *
  go_wp2
  go_region_held3 (fun w' => w'.cell? ⟨w.heap.size, 0, none⟩ = some (.string (B st)) ∧ w'.cell? ⟨w.heap.size, 1, none⟩ = some (.int .i64 ex) ∧ w'.cell? ⟨w.heap.size, 2, none⟩ = some (.int .i64 se) ∧ w'.cell? ⟨w.heap.size, 3, none⟩ = some (.int .i64 sq) ∧ w'.cell? ⟨w.heap.size, 4, none⟩ = some (.slice a b.events.length cap) ∧ KeptB w w')
    (first | assumption | exact boxF_drew (by assumption) | exact boxF_call (by assumption) (by assumption))
    (first
      | (go_at_call 139; with_reducible refine (refPutText_at st a1 _ hst H1).mono ?_; rintro x w4 ⟨rfl, hb4⟩)
      | (go_at_call 140; with_reducible refine (refNInt_at ex a2 _ H2).mono ?_; rintro x w5 ⟨rfl, hb5⟩)
      | (go_at_call 80; with_reducible refine (refNPut_at se a3 _ H3).mono ?_; rintro x w6 ⟨rfl, hb6⟩)
      | (go_at_call 80; with_reducible refine (refNPut_at sq a4 _ H4).mono ?_; rintro x w7 ⟨rfl, hb7⟩)
      | (go_at_call 80; with_reducible refine (refNPut_at (b.events.length : Int) a5 _ H5).mono ?_; rintro x w8 ⟨rfl, hb8⟩))
  rename_i hHeld
  obtain ⟨_, _, _, _, c4, hk⟩ := hHeld
  have hkb : Below w.heap.size w w8 := hk
  have hg8 : w.heap.size < w8.heap.size := World.block_lt_of_cell? w8 _ c4
  clear hk hS k1 k2 k3 k4 H1 H2 H3 H4 H5
  generalize b.events = evs at *
  have hl0 : (a1 ++ (a2 ++ (a3 ++ (a4 ++ a5)))).length ≤ 200 := by simp only [List.length_append]; omega
  have HE2 := Lib.hid (show r = (a1 ++ (a2 ++ (a3 ++ (a4 ++ a5)))) ++ evs.flatMap E.putE by rw [HE.out]; simp only [List.append_assoc])
  generalize (a1 ++ (a2 ++ (a3 ++ (a4 ++ a5)))) = hd at *
  go_wp2
  go_loopw [3, 4] (fun s i wr => ∃ k : Nat, i = .int .i64 k ∧ k ≤ evs.length ∧ s = .string (B (hd ++ (evs.take k).flatMap E.putE)) ∧ Below w8.heap.size w8 wr) (fun _ i _ => evs.length - (intOf i).toNat)
  case atStart => exact ⟨0, rfl, Nat.zero_le _, by simp, Below.refl _ _⟩
  case round =>
    obtain ⟨k, rfl, hk, rfl, hbr⟩ := hrel
    have d4 : wr.cell? ⟨w.heap.size, 4, none⟩ = some (.slice a evs.length cap) := by rw [hbr.cell hg8]; exact c4
    have hbb := hkb.trans (hbr.mono hkb.size)
    have hfl : ((evs.take k).flatMap E.putE).length ≤ 17000 := by
      have h1 := E.flat_len (evs.take k) fun e he => by have := HEV.out e (List.mem_of_mem_take he); omega
      have h2 : (evs.take k).length ≤ 8 := by rw [List.length_take]; omega
      omega
    by_cases hlt : k < evs.length
    · obtain ⟨b1, o1, rfl, e0, e1⟩ := HX.out k hlt
      have hk1 : (k : Int) < (evs.length : Int) := by omega
      have x0 : wr.cell? ⟨b1, o1 + k * 2, none⟩ = some (.string (B evs[k].1)) := by rw [hbb.cell (World.block_lt_of_cell? w _ e0)]; exact e0
      have x1 : wr.cell? ⟨b1, o1 + k * 2 + 1, none⟩ = some (.string (B evs[k].2)) := by rw [hbb.cell (World.block_lt_of_cell? w _ e1)]; exact e1
      have hel := HEV.out _ (List.getElem_mem hlt)
      have HS : Hid ((evs.take (k + 1)).flatMap E.putE = (evs.take k).flatMap E.putE ++ E.putE evs[k]) := Lib.hid (by rw [List.take_succ_eq_append_getElem hlt, List.flatMap_append]; simp)
      have hpl := E.putE_len (e := evs[k]) (by omega) (by omega)
      clear e0 e1
      generalize evs[k] = e at *
      generalize (evs.take k).flatMap E.putE = acc at *
      go_wp2_with fail
      refine (refBytes_l e wr (by omega) (by omega)).mono ?_
      rintro x w9 ⟨rfl, hb9⟩
      have hbr2 := hbr.trans (hb9.mono hbr.size)
      clear hb9
      generalize E.putE e = pe at *
      go_wp2
      go_roundw
      case rel => exact ⟨k + 1, by go_num, by omega, by rw [HS.out], hbr2⟩
      case measure => simp [intOf]; omega
    · have HT := Lib.hid (show evs.take k = evs from List.take_of_length_le (by omega))
      rw [HT.out]
      go_wp2
      go_ret
      rw [HE2.out]
      exact ⟨rfl, hbb⟩

set_option maxHeartbeats 1000000 in
set_option maxRecDepth 100000 in
theorem refPutBat_bad (b : E.Bat) (v : Value) (w : World) (hv : ReadsE w v b.events) (h1 : b.stream.length ≤ 1000000) (h3 : b.events.length ≤ 8 → ∀ e ∈ b.events, e.1.length ≤ 1000000) (hf : E.fits b ≠ 0) :
    Calls Tryz.prog 113 #[batV b v] w fun r w' => r = .returned (.string (B [])) ∧ Below w.heap.size w w' := by
  obtain ⟨c, HC⟩ : ∃ c, Hid (E.fits b = c) := ⟨_, Lib.hid rfl⟩
  rw [HC.out] at hf
  have hcb : ((c : Int) == 0) = false := beq_eq_false_iff_ne.2 (by omega)
  have hv2 := readsE_below hv ((Below.refl _ w).alloc (Nat.le_refl _) (.cells #[.string (B b.stream), .int .i64 b.expect, .int .i64 b.session, .int .i64 b.seq, v] 51))
  obtain ⟨a, cap, rfl, _⟩ := hv
  go_enter Tryz.func113, Tryz.ntmps113
  go_wp2_with fail
  refine (refFits_at b _ c _ hv2 h1 h3 HC).mono ?_
  rintro x w1 ⟨rfl, hb1⟩
  have hb := below_box hb1
  clear hb1
  go_wp2
  go_ret
  exact ⟨rfl, hb⟩
theorem refPutBat_l (b : E.Bat) (v : Value) (w : World) (hv : ReadsE w v b.events) (h1 : b.stream.length ≤ 1000000) (h3 : b.events.length ≤ 8 → ∀ e ∈ b.events, e.1.length ≤ 1000000) :
    Calls Tryz.prog 113 #[batV b v] w fun r w' => r = .returned (.string (B (E.putBat b))) ∧ Below w.heap.size w w' := by
  by_cases hf : E.fits b = 0
  · rw [E.putBat_ok hf]; exact refPutBat_ok b v w hv hf
  · rw [E.putBat_bad hf]; exact refPutBat_bad b v w hv h1 h3 hf
end Go.Proofs.YtmfhipjceeijmaaGreatDoor
