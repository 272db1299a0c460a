/-
  The writer of package message: numbers, marks, entries, events, names, and lists of them.
-/
import Derived.Test.YtljcgpdjhjkciaaGreatMsgWriter
namespace Go.Proofs.YtljcgpdjhjkciaaGreat
open Go.RowKit
attribute [local go_sem] ext_Bd ext_Bl ext_Bt toList_B add_B size_B get_Bt

theorem WrAt.lt {p N0 : Nat} {o : St} {w : World} (h : WrAt p o N0 w) : p < w.heap.size := by obtain ⟨_, _, _, hc, _⟩ := h; exact hc.lt
theorem WrAt.call {p N0 : Nat} {o : St} {w w' : World} (h : WrAt p o N0 w) (hb : Below w.heap.size w w') : WrAt p o N0 w' := by obtain ⟨v, bs, wr, hc, h1, h2⟩ := h; exact ⟨v, bs, wr, hc.call hb, h1, h2⟩
theorem WrAt.new {p N0 : Nat} {o : St} {w : World} (h : WrAt p o N0 w) (ob : Obj) : WrAt p o N0 (w.alloc ob) := h.call ((Below.refl _ w).alloc (Nat.le_refl _) ob)
theorem WrAt.mono {p N0 N1 : Nat} {o : St} {w : World} (h : WrAt p o N0 w) (hn : N0 ≤ N1) : WrAt p o N1 w := by obtain ⟨v, bs, wr, hc, h1, h2⟩ := h; exact ⟨v, bs, wr, hc, by omega, h2⟩
theorem WrAt.bad {p N0 : Nat} {o : St} {w : World} (s : List UInt8) (h : WrAt p o N0 w) : WrAt p (put1 false s o) N0 (w.setCell ⟨p, 1, none⟩ (.bool true)) := by
  obtain ⟨v, bs, wr, hc, h1, h2⟩ := h
  exact ⟨v, bs, true, hc.bad, h1, put1_bad (x := bs) h2 rfl⟩
theorem WrAt.cells {p N0 : Nat} {o : St} {w : World} (h : WrAt p o N0 w) : ∃ wr : Bool, w.cell? ⟨p, 1, none⟩ = some (.bool wr) ∧ w.frozen? ⟨p, 1, none⟩ = false := by
  obtain ⟨v, bs, wr, hc, h1, h2⟩ := h
  exact ⟨wr, by have := block_cell hc.blk 1; simpa using this, block_loose hc.blk 1⟩
theorem Wrote.below {p B0 : Nat} {w0 w w' : World} (hb : Below B0 w0 w) (hp : B0 ≤ p) (h : Wrote p w w') : Below B0 w0 w' := hb.trans ⟨h.os, h.tape, h.output, h.size, fun k hk => h.low k (by omega)⟩
theorem Wrote.new {p : Nat} {w w' : World} (h : Wrote p w w') (hp : p < w'.heap.size) (ob : Obj) : Wrote p w (w'.alloc ob) := h.trans (Wrote.of_below hp ((Below.refl _ w').alloc (Nat.le_refl _) ob))
theorem Wrote.call {p : Nat} {w w' w'' : World} (h : Wrote p w w') (hp : p < w'.heap.size) (hb : Below w'.heap.size w' w'') : Wrote p w w'' := h.trans (Wrote.of_below hp hb)
theorem flat_snoc {α β : Type} (f : α → List β) {l : List α} {k : Nat} (h : k < l.length) : (l.take (k + 1)).flatMap f = (l.take k).flatMap f ++ f l[k] := by
  rw [List.take_succ_eq_append_getElem h, List.flatMap_append]; simp
theorem all_snoc {α : Type} (g : α → Bool) {l : List α} {k : Nat} (h : k < l.length) : (l.take (k + 1)).all g = ((l.take k).all g && g l[k]) := by
  rw [List.take_succ_eq_append_getElem h, List.all_append]; simp
/-- What is put once k of a list are. -/
def listS {α : Type} (f : α → List UInt8) (g : α → Bool) (hd : List UInt8) (l : List α) (o : St) (k : Nat) : St := put1 ((l.take k).all g) (hd ++ (l.take k).flatMap f) o
theorem listS_step {α : Type} (f : α → List UInt8) (g : α → Bool) (hd : List UInt8) {l : List α} (o : St) {k : Nat} (h : k < l.length) : listS f g hd l o (k + 1) = put1 (g l[k]) (f l[k]) (listS f g hd l o k) := by
  unfold listS
  rw [put1_put1, flat_snoc f h, all_snoc g h, List.append_assoc]
theorem listS_all {α : Type} (f : α → List UInt8) (g : α → Bool) (hd : List UInt8) {l : List α} (o : St) {k : Nat} (h : l.length ≤ k) : listS f g hd l o k = put1 (l.all g) (hd ++ l.flatMap f) o := by
  unfold listS
  rw [List.take_of_length_le h]
theorem listS_zero {α : Type} (f : α → List UInt8) (g : α → Bool) (hd : List UInt8) (l : List α) (o : St) : listS f g hd l o 0 = put1 true hd o := by
  unfold listS; simp
abbrev intsA (zs : List Int) : Array Value := (zs.map (Value.int .i64)).toArray

set_option maxHeartbeats 1000000 in
set_option maxRecDepth 100000 in
theorem wr_numbers {p N0 q : Nat} {o : St} {w : World} (zs : List Int) (h : WrAt p o N0 w) (hq : w.heap[q]? = some (.cells (intsA zs) 3 (0, 0))) (hne : q ≠ p) (hn : zs.length ≤ 10) (hl : N0 + 100 ≤ 100000000) :
    Calls Tryz.prog 42 #[rdP p, .slice (some ⟨q, 0, none⟩) zs.length zs.length] w fun x w' => x = .returned (.tuple #[]) ∧ WrAt p (put1 (zs.all M.numR) (zs.flatMap M.putI) o) (N0 + 100) w' ∧ Wrote p w w' := by
  have HQ := Lib.hid hq
  have HS0 := Lib.hid (listS_zero M.putI M.numR [] zs o)
  have HS : Hid (∀ k (h : k < zs.length), listS M.putI M.numR [] zs o (k + 1) = put1 (M.numR zs[k]) (M.putI zs[k]) (listS M.putI M.numR [] zs o k)) := Lib.hid fun k h => listS_step _ _ _ _ h
  have HE : Hid (∀ k, zs.length ≤ k → listS M.putI M.numR [] zs o k = put1 (zs.all M.numR) (zs.flatMap M.putI) o) := Lib.hid fun k h => by rw [listS_all _ _ _ _ h]; rfl
  have H0 : Hid (put1 true [] o = o) := Lib.hid (by cases o <;> simp [put1])
  have HW := Lib.hid h
  generalize listS M.putI M.numR [] zs o = S at *
  clear hq h
  go_enter Tryz.func42, Tryz.ntmps42
  go_wp2
  go_loopw [8] (fun i wr => ∃ k : Nat, i = .int .i64 k ∧ k ≤ zs.length ∧ WrAt p (S k) (N0 + 10 * k) wr ∧ Wrote p w wr) (fun i _ => zs.length - (intOf i).toNat)
  case atStart => exact ⟨0, rfl, Nat.zero_le _, by rw [HS0.out, H0.out]; exact HW.out, Wrote.refl _ _⟩
  case round =>
    obtain ⟨k, rfl, hk, hwr, hwt⟩ := hrel
    have HWR := Lib.hid hwr
    have HWT := Lib.hid hwt
    by_cases hlt : k < zs.length
    · have hk1 : (k : Int) < (zs.length : Int) := by omega
      have hb := hwt.high q _ hne HQ.out (fun cs f e => by cases e)
      have c0 := block_cell hb k
      have c1 : (intsA zs)[k]? = some (.int .i64 zs[k]) := by simp [intsA, hlt]
      rw [c1] at c0
      have HST := Lib.hid (HS.out k hlt)
      clear hwr hwt hb c1
      generalize zs[k] = z at *
      go_wp2_with fail
      refine (wr_number z HWR.out (by omega)).mono ?_
      rintro x w1 ⟨rfl, h1, h2⟩
      have H1 := Lib.hid (h1.mono (show N0 + 10 * k + 10 ≤ N0 + 10 * (k + 1) by omega))
      have H2 := Lib.hid (HWT.out.trans h2)
      clear h1 h2 c0
      go_wp2
      go_roundw
      case rel => exact ⟨k + 1, by go_num, by omega, by rw [HST.out]; exact H1.out, H2.out⟩
      case measure => simp [intOf]; omega
    · have HEE := Lib.hid (HE.out k (by omega))
      clear hwr hwt
      go_wp2
      go_returns
      exact ⟨rfl, by rw [← HEE.out]; exact HWR.out.mono (by omega), HWT.out⟩

set_option maxHeartbeats 1000000 in
set_option maxRecDepth 100000 in
theorem wr_begin {p N0 q : Nat} {o : St} {w : World} (c : Nat) (zs : List Int) (hc8 : c < 256) (h : WrAt p o N0 w) (hq : w.heap[q]? = some (.cells (intsA zs) 3 (0, 0))) (hne : q ≠ p) (hn : zs.length ≤ 10) (hl : N0 + 200 ≤ 100000000) :
    Calls Tryz.prog 32 #[rdP p, .int .u8 c, .slice (some ⟨q, 0, none⟩) zs.length zs.length] w fun x w' => x = .returned (.tuple #[]) ∧ WrAt p (put1 (zs.all M.numR) (c.toUInt8 :: zs.flatMap M.putI) o) (N0 + 101) w' ∧ Wrote p w w' := by
  obtain ⟨i0, hi, hz0, hz1, hz2⟩ := info_parts Tryz.infoByte
  obtain ⟨v, bs, wr, hc, hbl, ho⟩ := h
  have c0 := block_cell hc.blk 0
  have c1 := block_cell hc.blk 1
  simp at c0 c1
  have l0 := block_loose hc.blk 0
  have HQ := Lib.hid hq
  have HO := Lib.hid ho
  obtain ⟨va, vc, hvv, hvc⟩ := own_slice hc.own
  subst hvv
  have h2 : WS p (.slice va bs.length vc) bs wr w (w.alloc (.cells #[.int .u8 c] 5)) := ⟨hc.call ((Below.refl _ w).alloc (Nat.le_refl _) _), Wrote.of_below hc.lt ((Below.refl _ w).alloc (Nat.le_refl _) _)⟩
  have hown := h2.c.own
  have hlt := hc.lt
  have HC := Lib.hid h2
  have e0 := h2.c0
  have hby : [Value.int .u8 (c : Int)] = Lib.byteCells [c.toUInt8] := by simp [Lib.byteCells]; omega
  have HB := Lib.hid hby
  clear ho hc h2 hq hby
  go_enter Tryz.func32, Tryz.ntmps32
  go_wp2_with (first
    | (at_builtin; refine wpList_append_own _ rfl _ _ 92 rfl (p + 1) 5 i0 (.int .u8 0) 1 1 Tryz.underlying92 hi hz0 hz1 hz2 rfl (by decide) _ _ _ rfl hown ⟨w.heap.size, 0, none⟩ 1 1 [.int .u8 c] rfl rfl (cell_one_new _ _ _) (by intro u hu; simp at hu; subst hu; rfl) (by unfold maxLen; omega) (by omega) (by simp; omega) ?_; intro v' w1 hown' hgrow _; obtain ⟨va', vc', hvv', -⟩ := own_slice hown'; subst hvv'; rw [HB.out] at hown'; have hc5 := HC.out.after (s := [c.toUInt8]) hown' hgrow; obtain ⟨hc5, d0, m0⟩ := hc5)
    | fail)
  have HWT := Lib.hid hc5.wr
  have HWR : Hid (WrAt p (put1 true [c.toUInt8] o) (N0 + 1) (w1.setCell ⟨p, 0, none⟩ (.slice va' (bs.length + 1) vc'))) := Lib.hid ⟨_, _, _, hc5.c, by rw [List.length_append]; simp; omega, put1_ok HO.out rfl⟩
  have HQ2 := Lib.hid (HWT.out.high q _ hne HQ.out (fun cs f e => by cases e))
  clear hc5 hown' hgrow
  refine (wr_numbers zs HWR.out HQ2.out hne hn (by omega)).mono ?_
  rintro x w2 ⟨rfl, h1, h2⟩
  have H1 : Hid (WrAt p (put1 (zs.all M.numR) (c.toUInt8 :: zs.flatMap M.putI) o) (N0 + 101) w2) := Lib.hid (by
    rw [put1_put1, Bool.true_and] at h1
    exact h1.mono (by omega))
  have H2 := Lib.hid (HWT.out.trans h2)
  clear h1 h2
  go_wp2
  go_returns
  exact ⟨rfl, H1.out, H2.out⟩

set_option maxHeartbeats 1000000 in
set_option maxRecDepth 100000 in
theorem wr_mark {p N0 : Nat} {o : St} {w : World} (m : R.Mk) (h : WrAt p o N0 w) (hl : N0 + 200 ≤ 100000000) :
    Calls Tryz.prog 36 #[rdP p, .agg #[.int .i64 m.1, .int .i64 m.2]] w fun x w' => x = .returned (.tuple #[]) ∧ WrAt p (put1 (M.numR m.1 && M.numR m.2) (M.putM m) o) (N0 + 100) w' ∧ Wrote p w w' := by
  have hlt := h.lt
  have HW := Lib.hid ((h.new (.cells #[.int .i64 m.1, .int .i64 m.2] 87)).new (.cells (intsA [m.1, m.2]) 3))
  have HT := Lib.hid (((Wrote.refl p w).new hlt (.cells #[.int .i64 m.1, .int .i64 m.2] 87)).new (by simp; omega) (.cells (intsA [m.1, m.2]) 3))
  have HB : Hid ((((w.alloc (.cells #[.int .i64 m.1, .int .i64 m.2] 87)).alloc (.cells (intsA [m.1, m.2]) 3)).heap[w.heap.size + 1]?) = some (.cells (intsA [m.1, m.2]) 3 (0, 0))) := Lib.hid (by
    have := World.alloc_heap_new (w.alloc (.cells #[.int .i64 m.1, .int .i64 m.2] 87)) (.cells (intsA [m.1, m.2]) 3)
    rwa [World.size_alloc] at this)
  clear h
  go_enter Tryz.func36, Tryz.ntmps36
  go_wp2_with fail
  refine (wr_numbers [m.1, m.2] HW.out HB.out (by omega) (by simp) (by omega)).mono ?_
  rintro x w2 ⟨rfl, h1, h2⟩
  have H1 : Hid (WrAt p (put1 (M.numR m.1 && M.numR m.2) (M.putM m) o) (N0 + 100) w2) := Lib.hid (by simpa [M.putM] using h1)
  have H2 := Lib.hid (HT.out.trans h2)
  clear h1 h2
  go_wp2
  go_returns
  exact ⟨rfl, H1.out, H2.out⟩
theorem E.putEv_ne (e : E.Ev) : decide (E.putEv e ≠ []) = E.right e := by
  cases h : E.right e
  · simp [E.putEv_bad h]
  · rw [E.putEv_ok h]
    have : E.putE e ≠ [] := by
      unfold E.putE N.putT
      have := N.putL_ne e.1.length
      simp [this]
    simp [this]
theorem R.putEn_ne (e : R.En) : decide (R.putEn e ≠ []) = R.right e := by
  cases h : R.right e
  · simp [R.putEn_bad h]
  · have : R.putEn e ≠ [] := fun he => by rw [R.putEn_nil.1 he] at h; cases h
    simp [this]
theorem E.putEv_len (e : E.Ev) : (E.putEv e).length ≤ 2012 := by
  cases h : E.right e
  · simp [E.putEv_bad h]
  · rw [E.putEv_ok h]
    have := E.right_bd h
    exact E.putE_len (by omega) (by omega)
theorem R.putEn_len (e : R.En) : (R.putEn e).length ≤ 20012 := by
  cases h : R.right e
  · simp [R.putEn_bad h]
  · rw [R.putEn_ok h]
    exact R.bytes_len h

set_option maxHeartbeats 1000000 in
set_option maxRecDepth 100000 in
theorem wr_event {p N0 : Nat} {o : St} {w : World} (e : E.Ev) (h : WrAt p o N0 w) (hl : N0 + 3000 ≤ 100000000) (h1 : e.1.length ≤ 9223372036854775807) (h2 : e.2.length ≤ 9223372036854775807) :
    Calls Tryz.prog 44 #[rdP p, evV e] w fun x w' => x = .returned (.tuple #[]) ∧ WrAt p (put1 (E.right e) (E.putEv e) o) (N0 + 2012) w' ∧ Wrote p w w' := by
  have hlt := h.lt
  have hpl := E.putEv_len e
  have HNE := Lib.hid (E.putEv_ne e)
  obtain ⟨s, HS⟩ : ∃ s, Hid (E.putEv e = s) := ⟨_, Lib.hid rfl⟩
  rw [HS.out] at hpl HNE ⊢
  have HW := Lib.hid (h.new (.cells #[.string (B e.1), .string (B e.2)] 55))
  have HT := Lib.hid ((Wrote.refl p w).new hlt (.cells #[.string (B e.1), .string (B e.2)] 55))
  clear h
  go_enter Tryz.func44, Tryz.ntmps44
  go_wp2_with fail
  refine (EPut_at e s _ h1 h2 HS).mono ?_
  rintro x w1 ⟨rfl, hb1⟩
  have HW1 := Lib.hid (HW.out.call hb1)
  have HT1 := Lib.hid (HT.out.call (by simp; omega) hb1)
  clear hb1
  go_wp2_with fail
  refine (wr_whole s HW1.out (by omega)).mono ?_
  rintro x w2 ⟨rfl, h1, h2⟩
  rw [HNE.out] at h1
  have H1 := Lib.hid (h1.mono (show N0 + s.length ≤ N0 + 2012 by omega))
  have H2 := Lib.hid (HT1.out.trans h2)
  clear h1 h2
  go_wp2
  go_returns
  exact ⟨rfl, H1.out, H2.out⟩

set_option maxHeartbeats 1000000 in
set_option maxRecDepth 100000 in
theorem wr_entry {p N0 : Nat} {o : St} {w : World} (e : R.En) (v : Value) (h : WrAt p o N0 w) (hl : N0 + 30000 ≤ 100000000) (hv : ReadsE w v e.b.events) (hs : E.Small e.b) :
    Calls Tryz.prog 38 #[rdP p, enV e v] w fun x w' => x = .returned (.tuple #[]) ∧ WrAt p (put1 (R.right e) (R.putEn e) o) (N0 + 20012) w' ∧ Wrote p w w' := by
  have hlt := h.lt
  have hpl := R.putEn_len e
  have HNE := Lib.hid (R.putEn_ne e)
  obtain ⟨s, HS⟩ : ∃ s, Hid (R.putEn e = s) := ⟨_, Lib.hid rfl⟩
  rw [HS.out] at hpl HNE ⊢
  obtain ⟨pos, ep, ⟨st, ex, se, sq, evs⟩⟩ := e
  have HV := Lib.hid hv
  have HSM := Lib.hid hs
  obtain ⟨a, cap, rfl, _⟩ := hv
  dsimp only at *
  have HW := Lib.hid (h.new (.cells #[.int .i64 pos, .int .i64 ep, .string (B st), .int .i64 ex, .int .i64 se, .int .i64 sq, .slice a evs.length cap] 53))
  have HT := Lib.hid ((Wrote.refl p w).new hlt (.cells #[.int .i64 pos, .int .i64 ep, .string (B st), .int .i64 ex, .int .i64 se, .int .i64 sq, .slice a evs.length cap] 53))
  clear h hs
  go_enter Tryz.func38, Tryz.ntmps38
  go_wp2_with fail
  refine (Put6_at ⟨pos, ep, ⟨st, ex, se, sq, evs⟩⟩ _ s _ (readsE_below HV.out ((Below.refl _ w).alloc (Nat.le_refl _) _)) HSM.out HS).mono ?_
  rintro x w1 ⟨rfl, hb1⟩
  have HW1 := Lib.hid (HW.out.call hb1)
  have HT1 := Lib.hid (HT.out.call (by simp; omega) hb1)
  clear hb1
  go_wp2_with fail
  refine (wr_whole s HW1.out (by omega)).mono ?_
  rintro x w2 ⟨rfl, h1, h2⟩
  rw [HNE.out] at h1
  have H1 := Lib.hid (h1.mono (show N0 + s.length ≤ N0 + 20012 by omega))
  have H2 := Lib.hid (HT1.out.trans h2)
  clear h1 h2
  go_wp2
  go_returns
  exact ⟨rfl, H1.out, H2.out⟩

set_option maxHeartbeats 1000000 in
set_option maxRecDepth 100000 in
theorem wr_name {p N0 : Nat} {o : St} {w : World} (s : List UInt8) (h : WrAt p o N0 w) (hl : N0 + 300 ≤ 100000000) (hs : s.length ≤ 9223372036854775807) :
    Calls Tryz.prog 41 #[rdP p, .string (B s)] w fun x w' => x = .returned (.tuple #[]) ∧ WrAt p (put1 (nameL s) (N.putT s) o) (N0 + 200) w' ∧ Wrote p w w' := by
  obtain ⟨i0, hi, hz0, hz1, hz2⟩ := info_parts Tryz.infoByte
  have hlt := h.lt
  obtain ⟨b, HNM⟩ : ∃ b, Hid (nameL s = b) := ⟨_, Lib.hid rfl⟩
  obtain ⟨t, HP⟩ : ∃ t, Hid (N.putT s = t) := ⟨_, Lib.hid rfl⟩
  have HTL : Hid (b = true → t.length ≤ 200 ∧ s.length ≤ 1000000) := Lib.hid fun hb => by
    have hnl := nameL_len (HNM.out.trans hb)
    have := N.putT_len (l := s) (by omega)
    rw [HP.out] at this
    omega
  rw [HNM.out, HP.out]
  go_enter Tryz.func41, Tryz.ntmps41
  go_wp2_with fail
  refine (Name_l s w (by omega)).mono ?_
  rintro x w1 ⟨rfl, hb1⟩
  rw [HNM.out]
  have hw1 := h.call hb1
  have HT := Lib.hid ((Wrote.refl p w).call hlt hb1)
  clear h hb1
  cases b
  · obtain ⟨wr, c1, l1⟩ := hw1.cells
    have HW := Lib.hid (hw1.bad t)
    clear hw1
    go_wp2
    go_returns
    exact ⟨rfl, HW.out.mono (by omega), HT.out.trans (Wrote.of_set 1 _)⟩
  · have htl := (HTL.out rfl).1
    have hs6 : s.length ≤ 1000000 := (HTL.out rfl).2
    obtain ⟨v, bs, wr, hc, hbl, ho⟩ := hw1
    obtain ⟨va, vc, hvv, hvc⟩ := own_slice hc.own
    subst hvv
    have h2 : WS p (.slice va bs.length vc) bs wr w w1 := ⟨hc, HT.out⟩
    have hlt2 := h2.c.lt
    have HC := Lib.hid h2
    have e0 := h2.c0
    have HE := Lib.hid (put1_ok (s := t) (ok := true) ho rfl)
    clear ho hc h2
    go_wp2
    go_region_law (first
      | (refine step_append_text (by rfl) _ _ 92 9 (by rfl) (p + 1) 5 i0 Tryz.underlying92 Tryz.underlying9 hi hz0 hz1 hz2 (.slice va bs.length vc) bs.length (Lib.byteCells bs) (by rfl) (by first | exact hc4.c.own | exact hc4.drew.c.own) t (by rfl) (by unfold maxLen; omega) (by omega) (by first | omega | (simp; omega)) ?_; intro v' w5 hown' hgrow; obtain ⟨va', vc', hvv', -⟩ := own_slice hown'; subst hvv'; have hc5 := WS.after (by first | exact hc4 | exact hc4.drew | exact hc4.drew.drew) hown' hgrow; obtain ⟨hc5, d0, m0⟩ := hc5)
      | (go_simp; go_at_call 66; with_reducible refine (PutText_at s t _ hs6 HP).mono ?_; rintro x w4 ⟨rfl, hb4⟩; have hc4 := WS.call (by first | exact HC.out | exact HC.out.drew | exact HC.out.drew.drew) hb4; have e4 := hc4.c0; have hlt4 := hc4.c.lt))
    all_goals
      go_wp2
      go_returns
      exact ⟨rfl, hc5.done hbl (by omega) HE.out⟩
end Go.Proofs.YtljcgpdjhjkciaaGreat
