/-
  Walks of the document's answer to layer 5 (package bucketlineref5): bytes, Put, PutBatch.
-/
import Derived.Test.YtljcgpdjhjkciaaGreatEventRef
import Derived.Test.YtljcgpdjhjkciaaGreatEventProg2
namespace Go.Proofs.YtljcgpdjhjkciaaGreat
open Go.RowKit
attribute [local go_sem] ext_Bd ext_Bl ext_Bt toList_B add_B size_B get_Bt

theorem refPutText_at (l r : List UInt8) (w : World) (h : l.length ≤ 1000000) (H : Hid (N.putT l = r)) :
    Calls Tryz.prog 28 #[.string (B l)] w fun e w' => e = .returned (.string (B r)) ∧ Below w.heap.size w w' := by
  rw [← H.out]; exact refPutText_l l w h

set_option maxHeartbeats 2000000 in
set_option maxRecDepth 100000 in
theorem refBytes_l (e : E.Ev) (w : World) (h1 : e.1.length ≤ 1000) (h2 : e.2.length ≤ 1000) :
    Calls Tryz.prog 46 #[evV e] w fun r w' => r = .returned (.string (B (E.putE e))) ∧ Below w.heap.size w w' := by
  obtain ⟨k, d⟩ := e
  dsimp only at h1 h2
  obtain ⟨a, HA⟩ : ∃ a, Hid (N.putT k = a) := ⟨_, Lib.hid rfl⟩
  obtain ⟨c, HC⟩ : ∃ c, Hid (N.putT d = c) := ⟨_, Lib.hid rfl⟩
  have hal : a.length ≤ 1006 := by have := N.putT_len (l := k) (by omega); rw [HA.out] at this; omega
  have hcl : c.length ≤ 1006 := by have := N.putT_len (l := d) (by omega); rw [HC.out] at this; omega
  have HP : Hid (E.putE (k, d) = a ++ c) := Lib.hid (by unfold E.putE; rw [HA.out, HC.out])
  obtain ⟨r, HR⟩ : ∃ r, Hid (E.putE (k, d) = r) := ⟨_, Lib.hid rfl⟩
  rw [HR.out]
  have hk6 : k.length ≤ 1000000 := by omega
  have hd6 : d.length ≤ 1000000 := by omega
  have hcat : ∀ w' : World, (Op.stringOp .add (B a) (B c)).run Tryz.prog w' = .ok (.string (B (a ++ c))) w' := fun w' => by
    rw [run_string_add_sum w' (B a) (B c) (by rw [size_B, size_B]; omega), add_B]
  go_enter Tryz.func46, Tryz.ntmps46
  go_wp2
  have hS : BoxB w w.heap.size (.string (B k)) (.string (B d)) (w.alloc (.cells #[.string (B k), .string (B d)] 55)) :=
    ⟨by rw [World.cell?_alloc_new]; rfl, by rw [World.cell?_alloc_new]; rfl, (Below.refl _ w).alloc (Nat.le_refl _) _⟩
  generalize w.alloc (.cells #[.string (B k), .string (B d)] 55) = w1 at *
  unfold BoxB at hS
  go_region_held3 (fun w' => w'.cell? ⟨w.heap.size, 0, none⟩ = some (.string (B k)) ∧ w'.cell? ⟨w.heap.size, 1, none⟩ = some (.string (B d)) ∧ KeptB w w')
    (first | assumption | exact boxB_drew (by assumption) | exact boxB_call (by assumption) (by assumption))
    (first
      | (go_at_call 28; with_reducible refine (refPutText_at k a _ hk6 HA).mono ?_; rintro x w4 ⟨rfl, hb4⟩)
      | (go_at_call 28; with_reducible refine (refPutText_at d c _ hd6 HC).mono ?_; rintro x w5 ⟨rfl, hb5⟩))
  rename_i hHeld
  have HB := Lib.hid hHeld.2.2
  have HE := Lib.hid (show r = a ++ c by rw [← HR.out]; exact HP.out)
  clear hHeld
  go_wp2
  go_ret
  rw [HE.out]
  exact ⟨rfl, HB.out⟩

set_option maxHeartbeats 1000000 in
set_option maxRecDepth 100000 in
theorem refEPut_l (e : E.Ev) (w : World) (h1 : e.1.length ≤ 1000000) :
    Calls Tryz.prog 26 #[evV e] w fun r w' => r = .returned (.string (B (E.putEv e))) ∧ Below w.heap.size w w' := by
  obtain ⟨r, HR⟩ : ∃ r, Hid (E.putEv e = r) := ⟨_, Lib.hid rfl⟩
  rw [HR.out]
  cases hr : E.right e
  · have HE := Lib.hid (show r = [] by rw [← HR.out]; exact E.putEv_bad hr)
    have HQ := Lib.hid hr; clear hr
    go_enter Tryz.func26, Tryz.ntmps26
    go_wp2_with fail
    refine (refRight_at e false _ (by omega) HQ).mono ?_
    rintro x w1 ⟨rfl, hb1⟩
    have hb := below_box hb1
    clear hb1
    go_wp2
    go_ret
    rw [HE.out]
    exact ⟨rfl, hb⟩
  · have HE := Lib.hid (show r = E.putE e by rw [← HR.out]; exact E.putEv_ok hr)
    have HQ := Lib.hid hr; clear hr
    have hbd := E.right_bd HQ.out
    go_enter Tryz.func26, Tryz.ntmps26
    go_wp2_with fail
    refine (refRight_at e true _ (by omega) HQ).mono ?_
    rintro x w1 ⟨rfl, hb1⟩
    have c0 := box_at hb1 0
    have c1 := box_at hb1 1
    simp at c0 c1
    have hb := below_box hb1
    clear hb1
    go_wp2_with fail
    refine (chain (refBytes_l e w1 (by omega) (by omega)) hb).mono ?_
    rintro x w2 ⟨rfl, hb2⟩
    go_wp2
    go_ret
    rw [HE.out]
    exact ⟨rfl, hb2⟩

def BoxF (w0 : World) (g : Nat) (x0 x1 x2 x3 x4 : Value) (a : World) : Prop :=
  a.cell? ⟨g, 0, none⟩ = some x0 ∧ a.cell? ⟨g, 1, none⟩ = some x1 ∧ a.cell? ⟨g, 2, none⟩ = some x2 ∧ a.cell? ⟨g, 3, none⟩ = some x3 ∧ a.cell? ⟨g, 4, none⟩ = some x4 ∧ KeptB w0 a
theorem boxF_drew {w0 : World} {g : Nat} {x0 x1 x2 x3 x4 : Value} {a : World} (h : BoxF w0 g x0 x1 x2 x3 x4 a) : BoxF w0 g x0 x1 x2 x3 x4 a.drew := ⟨h.1, h.2.1, h.2.2.1, h.2.2.2.1, h.2.2.2.2.1, keptB_drew h.2.2.2.2.2⟩
theorem boxF_call {w0 : World} {g : Nat} {x0 x1 x2 x3 x4 : Value} {a b : World} (h : BoxF w0 g x0 x1 x2 x3 x4 a) (hb : Below a.heap.size a b) : BoxF w0 g x0 x1 x2 x3 x4 b := by
  obtain ⟨h0, h1, h2, h3, h4, hk⟩ := h
  exact ⟨by rw [hb.cell (World.block_lt_of_cell? a _ h0)]; exact h0, by rw [hb.cell (World.block_lt_of_cell? a _ h1)]; exact h1, by rw [hb.cell (World.block_lt_of_cell? a _ h2)]; exact h2,
    by rw [hb.cell (World.block_lt_of_cell? a _ h3)]; exact h3, by rw [hb.cell (World.block_lt_of_cell? a _ h4)]; exact h4, keptB_call hk hb⟩
theorem refNPut_at (n : Int) (r : List UInt8) (w : World) (H : Hid (N.putL (N.held n) = r)) :
    Calls Tryz.prog 24 #[.int .i64 n] w fun e w' => e = .returned (.string (B r)) ∧ Below w.heap.size w w' := by
  rw [← H.out]; exact refPut_any n w
theorem refNInt_at (n : Int) (r : List UInt8) (w : World) (H : Hid (N.putL (N.zigN n) = r)) :
    Calls Tryz.prog 47 #[.int .i64 n] w fun e w' => e = .returned (.string (B r)) ∧ Below w.heap.size w w' := by
  rw [← H.out]; exact refPutInt_any n w

set_option maxHeartbeats 4000000 in
set_option maxRecDepth 100000 in
theorem refPutBat_ok (b : E.Bat) (v : Value) (w : World) (hv : ReadsE w v b.events) (hf : E.fits b = 0) :
    Calls Tryz.prog 27 #[batV b v] w fun r w' => r = .returned (.string (B (E.bytes b))) ∧ Below w.heap.size w w' := by
  obtain ⟨hh, h8, hr⟩ := E.fits_inv hf
  have hsl := (nameL_len hh.1).2
  have hev : ∀ e ∈ b.events, e.1.length ≤ 128 ∧ e.2.length ≤ 200 := fun e he => by
    have := E.right_bd (List.all_eq_true.1 hr e he)
    exact ⟨this.1, this.2.1⟩
  have HEV := Lib.hid hev; clear hev hr hh
  have hv2 := hv
  obtain ⟨a, cap, rfl, hcap, _, hx⟩ := hv
  have HX := Lib.hid hx; clear hx hcap
  have HF := Lib.hid hf; clear hf
  have HV := Lib.hid hv2; clear hv2
  obtain ⟨a1, H1⟩ : ∃ a1, Hid (N.putT b.stream = a1) := ⟨_, Lib.hid rfl⟩
  obtain ⟨a2, H2⟩ : ∃ a2, Hid (N.putL (N.zigN b.expect) = a2) := ⟨_, Lib.hid rfl⟩
  obtain ⟨a3, H3⟩ : ∃ a3, Hid (N.putL (N.held b.session) = a3) := ⟨_, Lib.hid rfl⟩
  obtain ⟨a4, H4⟩ : ∃ a4, Hid (N.putL (N.held b.seq) = a4) := ⟨_, Lib.hid rfl⟩
  obtain ⟨a5, H5⟩ : ∃ a5, Hid (N.putL (N.held (b.events.length : Int)) = a5) := ⟨_, Lib.hid rfl⟩
  have l1 : a1.length ≤ 134 := by have := N.putT_len (l := b.stream) (by omega); rw [H1.out] at this; omega
  have l2 : a2.length ≤ 6 := by have := N.putL_len6 (N.zigN_le b.expect); rw [H2.out] at this; exact this
  have l3 : a3.length ≤ 6 := by have := N.putL_len6 (N.held_le b.session); rw [H3.out] at this; exact this
  have l4 : a4.length ≤ 6 := by have := N.putL_len6 (N.held_le b.seq); rw [H4.out] at this; exact this
  have l5 : a5.length ≤ 6 := by have := N.putL_len6 (N.held_le (b.events.length : Int)); rw [H5.out] at this; exact this
  have hst : b.stream.length ≤ 1000000 := by omega
  obtain ⟨r, HR⟩ : ∃ r, Hid (E.bytes b = r) := ⟨_, Lib.hid rfl⟩
  rw [HR.out]
  have HE := Lib.hid (show r = a1 ++ (a2 ++ (a3 ++ (a4 ++ (a5 ++ b.events.flatMap E.putE)))) by
    rw [← HR.out]; unfold E.bytes; rw [H1.out, H2.out, H3.out, H4.out, ← H5.out, show N.held (b.events.length : Int) = b.events.length by unfold N.held; omega])
  have k1 := cat_run (a := a1) (c := a2) (by omega)
  have k2 := cat_run (a := a1 ++ a2) (c := a3) (by simp only [List.length_append]; omega)
  have k3 := cat_run (a := a1 ++ a2 ++ a3) (c := a4) (by simp only [List.length_append]; omega)
  have k4 := cat_run (a := a1 ++ a2 ++ a3 ++ a4) (c := a5) (by simp only [List.length_append]; omega)
  simp only [List.append_assoc] at k1 k2 k3 k4
  go_enter Tryz.func27, Tryz.ntmps27
  go_wp2_with fail
  refine (refFits_at b _ 0 _ (readsE_below HV.out ((Below.refl _ w).alloc (Nat.le_refl _) _)) (by omega) (fun _ e he => by have := HEV.out e he; omega) HF).mono ?_
  rintro x w1 ⟨rfl, hb1⟩
  have hS : BoxF w w.heap.size (.string (B b.stream)) (.int .i64 b.expect) (.int .i64 b.session) (.int .i64 b.seq) (.slice a b.events.length cap) w1 :=
    ⟨by rw [box_at hb1]; rfl, by rw [box_at hb1]; rfl, by rw [box_at hb1]; rfl, by rw [box_at hb1]; rfl, by rw [box_at hb1]; rfl, below_box hb1⟩
  have hg1 : w.heap.size < w1.heap.size := by have := hb1.size; simp at this; omega
  clear hb1 HR HV
  unfold BoxF at hS
  generalize b.stream = st at *
  generalize b.expect = ex at *
  generalize b.session = se at *
  generalize b.seq = sq at *
  go_wp2
  go_region_held3 (fun w' => w'.cell? ⟨w.heap.size, 0, none⟩ = some (.string (B st)) ∧ w'.cell? ⟨w.heap.size, 1, none⟩ = some (.int .i64 ex) ∧ w'.cell? ⟨w.heap.size, 2, none⟩ = some (.int .i64 se) ∧ w'.cell? ⟨w.heap.size, 3, none⟩ = some (.int .i64 sq) ∧ w'.cell? ⟨w.heap.size, 4, none⟩ = some (.slice a b.events.length cap) ∧ KeptB w w')
    (first | assumption | exact boxF_drew (by assumption) | exact boxF_call (by assumption) (by assumption))
    (first
      | (go_at_call 28; with_reducible refine (refPutText_at st a1 _ hst H1).mono ?_; rintro x w4 ⟨rfl, hb4⟩)
      | (go_at_call 47; with_reducible refine (refNInt_at ex a2 _ H2).mono ?_; rintro x w5 ⟨rfl, hb5⟩)
      | (go_at_call 24; with_reducible refine (refNPut_at se a3 _ H3).mono ?_; rintro x w6 ⟨rfl, hb6⟩)
      | (go_at_call 24; with_reducible refine (refNPut_at sq a4 _ H4).mono ?_; rintro x w7 ⟨rfl, hb7⟩)
      | (go_at_call 24; with_reducible refine (refNPut_at (b.events.length : Int) a5 _ H5).mono ?_; rintro x w8 ⟨rfl, hb8⟩))
  rename_i hHeld
  obtain ⟨_, _, _, _, c4, hk⟩ := hHeld
  have hkb : Below w.heap.size w w8 := hk
  have hg8 : w.heap.size < w8.heap.size := World.block_lt_of_cell? w8 _ c4
  clear hk hS k1 k2 k3 k4 H1 H2 H3 H4 H5
  generalize b.events = evs at *
  have hl0 : (a1 ++ (a2 ++ (a3 ++ (a4 ++ a5)))).length ≤ 200 := by simp only [List.length_append]; omega
  have HE2 := Lib.hid (show r = (a1 ++ (a2 ++ (a3 ++ (a4 ++ a5)))) ++ evs.flatMap E.putE by rw [HE.out]; simp only [List.append_assoc])
  generalize (a1 ++ (a2 ++ (a3 ++ (a4 ++ a5)))) = hd at *
  go_wp2
  go_loopw [3, 4] (fun s i wr => ∃ k : Nat, i = .int .i64 k ∧ k ≤ evs.length ∧ s = .string (B (hd ++ (evs.take k).flatMap E.putE)) ∧ Below w8.heap.size w8 wr) (fun _ i _ => evs.length - (intOf i).toNat)
  case atStart => exact ⟨0, rfl, Nat.zero_le _, by simp, Below.refl _ _⟩
  case round =>
    obtain ⟨k, rfl, hk, rfl, hbr⟩ := hrel
    have d4 : wr.cell? ⟨w.heap.size, 4, none⟩ = some (.slice a evs.length cap) := by rw [hbr.cell hg8]; exact c4
    have hbb := hkb.trans (hbr.mono hkb.size)
    have hfl : ((evs.take k).flatMap E.putE).length ≤ 17000 := by
      have h1 := E.flat_len (evs.take k) fun e he => by have := HEV.out e (List.mem_of_mem_take he); omega
      have h2 : (evs.take k).length ≤ 8 := by rw [List.length_take]; omega
      omega
    by_cases hlt : k < evs.length
    · obtain ⟨b1, o1, rfl, e0, e1⟩ := HX.out k hlt
      have hk1 : (k : Int) < (evs.length : Int) := by omega
      have x0 : wr.cell? ⟨b1, o1 + k * 2, none⟩ = some (.string (B evs[k].1)) := by rw [hbb.cell (World.block_lt_of_cell? w _ e0)]; exact e0
      have x1 : wr.cell? ⟨b1, o1 + k * 2 + 1, none⟩ = some (.string (B evs[k].2)) := by rw [hbb.cell (World.block_lt_of_cell? w _ e1)]; exact e1
      have hel := HEV.out _ (List.getElem_mem hlt)
      have HS : Hid ((evs.take (k + 1)).flatMap E.putE = (evs.take k).flatMap E.putE ++ E.putE evs[k]) := Lib.hid (by rw [List.take_succ_eq_append_getElem hlt, List.flatMap_append]; simp)
      have hpl := E.putE_len (e := evs[k]) (by omega) (by omega)
      clear e0 e1
      generalize evs[k] = e at *
      generalize (evs.take k).flatMap E.putE = acc at *
      go_wp2_with fail
      refine (refBytes_l e wr (by omega) (by omega)).mono ?_
      rintro x w9 ⟨rfl, hb9⟩
      have hbr2 := hbr.trans (hb9.mono hbr.size)
      clear hb9
      generalize E.putE e = pe at *
      go_wp2
      go_roundw
      case rel => exact ⟨k + 1, by go_num, by omega, by rw [HS.out], hbr2⟩
      case measure => simp [intOf]; omega
    · have HT := Lib.hid (show evs.take k = evs from List.take_of_length_le (by omega))
      rw [HT.out]
      go_wp2
      go_ret
      rw [HE2.out]
      exact ⟨rfl, hbb⟩

set_option maxHeartbeats 1000000 in
set_option maxRecDepth 100000 in
theorem refPutBat_bad (b : E.Bat) (v : Value) (w : World) (hv : ReadsE w v b.events) (h1 : b.stream.length ≤ 1000000) (h3 : b.events.length ≤ 8 → ∀ e ∈ b.events, e.1.length ≤ 1000000) (hf : E.fits b ≠ 0) :
    Calls Tryz.prog 27 #[batV b v] w fun r w' => r = .returned (.string (B [])) ∧ Below w.heap.size w w' := by
  obtain ⟨c, HC⟩ : ∃ c, Hid (E.fits b = c) := ⟨_, Lib.hid rfl⟩
  rw [HC.out] at hf
  have hcb : ((c : Int) == 0) = false := beq_eq_false_iff_ne.2 (by omega)
  have hv2 := readsE_below hv ((Below.refl _ w).alloc (Nat.le_refl _) (.cells #[.string (B b.stream), .int .i64 b.expect, .int .i64 b.session, .int .i64 b.seq, v] 28))
  obtain ⟨a, cap, rfl, _⟩ := hv
  go_enter Tryz.func27, Tryz.ntmps27
  go_wp2_with fail
  refine (refFits_at b _ c _ hv2 h1 h3 HC).mono ?_
  rintro x w1 ⟨rfl, hb1⟩
  have hb := below_box hb1
  clear hb1
  go_wp2
  go_ret
  exact ⟨rfl, hb⟩
theorem refPutBat_l (b : E.Bat) (v : Value) (w : World) (hv : ReadsE w v b.events) (h1 : b.stream.length ≤ 1000000) (h3 : b.events.length ≤ 8 → ∀ e ∈ b.events, e.1.length ≤ 1000000) :
    Calls Tryz.prog 27 #[batV b v] w fun r w' => r = .returned (.string (B (E.putBat b))) ∧ Below w.heap.size w w' := by
  by_cases hf : E.fits b = 0
  · rw [E.putBat_ok hf]; exact refPutBat_ok b v w hv hf
  · rw [E.putBat_bad hf]; exact refPutBat_bad b v w hv h1 h3 hf
end Go.Proofs.YtljcgpdjhjkciaaGreat
