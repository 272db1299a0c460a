/-
  Walks of package record: found, the closure of strayFrom, Follows.
-/
import Derived.Test.YtfhopgficckjkaaRecordRight
import Derived.Test.YtfhopgficckjkaaRecordClos
import Derived.Test.YtfhopgficckjkaaRecordMarks
namespace Go.Proofs.Ytfhopgficckjkaa
open Go.RowKit
attribute [local go_sem] ext_Bd ext_Bl ext_Bt toList_B add_B size_B get_Bt

/-- found, of a closure that keeps a state of its own: it tells whether one of the entries, in their order, was wrong. -/
theorem found_run (fn : Nat) (caps : Array Value) (es : List EV) (v : Value) (w : World) (St : Nat → World → Prop) (bad : Nat → Bool) (hfn : fn = 38 ∨ fn = 60) (hl : es.length ≤ 1000) (hv : ReadsR w v es)
    (hrd : ∀ k wr, St k wr → ReadsR wr v es)
    (hal : ∀ k wr o, St k wr → St k (wr.alloc o))
    (hstep : ∀ k wr (h : k < es.length), St k wr → (∀ i, i < k → bad i = false) → Calls Try.prog fn (#[enV es[k].1 es[k].2] ++ caps) wr fun x w' => x = .returned (.bool (bad k)) ∧ St (k + 1) w') (h0 : St 0 w) :
    Calls Try.prog 39 #[v, .func (.func fn) #[] caps] w fun x w' => ((x = .returned (.bool true) ∧ ∃ k, k < es.length ∧ bad k = true ∧ ∀ i, i < k → bad i = false) ∨ (x = .returned (.bool false) ∧ ∀ i, i < es.length → bad i = false)) ∧ ∃ k, St k w' := by
  obtain ⟨a, cap, rfl, _⟩ := hv
  have HRD := Lib.hid hrd
  have HAL := Lib.hid hal
  have HST := Lib.hid hstep
  have H0 := Lib.hid h0
  clear hrd hal hstep h0
  go_enter Try.func39, Try.ntmps39
  go_wp2
  go_loopw [9] (fun i wr => ∃ k : Nat, i = .int .i64 k ∧ k ≤ es.length ∧ St k wr ∧ ∀ i, i < k → bad i = false) (fun i _ => es.length - (intOf i).toNat)
  case atStart => exact ⟨0, rfl, Nat.zero_le _, H0.out, fun i hi => absurd hi (Nat.not_lt_zero _)⟩
  case round =>
    obtain ⟨k, rfl, hk, hst, hbad⟩ := hrel
    have HS := Lib.hid hst
    have HB := Lib.hid hbad
    clear hst hbad
    by_cases hlt : k < es.length
    · obtain ⟨a2, cap2, hve, _, _, hx⟩ := HRD.out k wr HS.out
      cases hve
      obtain ⟨hre, -, b1, o1, rfl, h7⟩ := hx k hlt
      have hi1 : (k : Int) < (es.length : Int) := by omega
      obtain ⟨ea, en, ec, hu⟩ := readsE_form hre
      have HCL := Lib.hid fun o => HST.out k (wr.alloc o) hlt (HAL.out _ _ o HS.out) HB.out
      clear hre hx
      generalize es[k] = pe at *
      obtain ⟨e, u⟩ := pe
      dsimp only at h7 hu HCL
      subst hu
      obtain ⟨c0, c1, c2, c3, c4, c5, c6⟩ := h7
      obtain ⟨q, HQ⟩ : ∃ q, Hid (bad k = q) := ⟨_, Lib.hid rfl⟩
      rw [HQ.out] at HCL
      rcases hfn with rfl | rfl
      all_goals
        go_wp2_with fail
        refine (HCL.out _).mono ?_
        rintro x w2 ⟨rfl, hs2⟩
        have HS2 := Lib.hid hs2
        clear hs2
        cases q
        · go_wp2
          go_roundw
          case rel => exact ⟨k + 1, by go_num, by omega, HS2.out, fun i hi => by
            rcases Nat.lt_succ_iff_lt_or_eq.1 hi with h | rfl
            · exact HB.out i h
            · exact HQ.out⟩
          case measure => simp [intOf]; omega
        · go_wp2
          go_ret
          exact ⟨.inl ⟨rfl, k, hlt, HQ.out, HB.out⟩, _, HS2.out⟩
    · go_wp2
      go_ret
      exact ⟨.inr ⟨rfl, fun i hi => HB.out i (by omega)⟩, _, HS.out⟩

abbrev cloS (g1 g2 : Nat) : Value := .func (.func 60) #[] #[.pointer (some ⟨g1, 0, none⟩), .pointer (some ⟨g2, 0, none⟩)]
/-- The two variables of a closure of strayFrom. -/
def StrayAt (w0 : World) (g1 g2 : Nat) (p q : Int) (a : World) : Prop :=
  a.heap[g1]? = some (.cells #[.int .i64 p] 3 (0, 0)) ∧ a.heap[g2]? = some (.cells #[.int .i64 q] 3 (0, 0)) ∧ g1 < g2 ∧ w0.heap.size ≤ g1 ∧ Below w0.heap.size w0 a
theorem StrayAt.step {w0 a b : World} {g1 g2 : Nat} {p q : Int} (h : StrayAt w0 g1 g2 p q a) (hb : Below a.heap.size a b) : StrayAt w0 g1 g2 p q b := by
  obtain ⟨h1, h2, h3, h4, h5⟩ := h
  exact ⟨(hb.block _ (lt_of_block h1)).trans h1, (hb.block _ (lt_of_block h2)).trans h2, h3, h4, h5.trans (hb.mono h5.size)⟩
theorem StrayAt.drew {w0 a : World} {g1 g2 : Nat} {p q : Int} (h : StrayAt w0 g1 g2 p q a) : StrayAt w0 g1 g2 p q a.drew := h.step ⟨rfl, rfl, rfl, Nat.le_refl _, fun _ _ => rfl⟩
theorem StrayAt.set {w0 a : World} {g1 g2 : Nat} {p q p2 q2 : Int} (h : StrayAt w0 g1 g2 p q a) : StrayAt w0 g1 g2 p2 q2 ((a.setCell ⟨g1, 0, none⟩ (.int .i64 p2)).setCell ⟨g2, 0, none⟩ (.int .i64 q2)) := by
  obtain ⟨h1, h2, h3, h4, h5⟩ := h
  refine ⟨?_, one_setCell (v := .int .i64 q) ?_, h3, h4, (h5.setCell (p := ⟨g1, 0, none⟩) h4 _).setCell (p := ⟨g2, 0, none⟩) (by show w0.heap.size ≤ g2; omega) _⟩
  · rw [Below.heap_setCell _ _ _ _ (by show g1 ≠ g2; omega)]
    exact one_setCell h1
  · rw [Below.heap_setCell _ _ _ _ (by show g2 ≠ g1; omega)]
    exact h2
def stray (e : R.En) (p q : Int) : Bool := !(R.right e && (decide (e.pos = p + 1) && decide (q ≤ e.epoch)))

set_option maxHeartbeats 2000000 in
set_option maxRecDepth 100000 in
theorem stray_ask (e : R.En) (v : Value) (w0 w : World) (g1 g2 : Nat) (p q : Int) (r : Bool) (hv : ReadsE w v e.b.events) (hs : E.Small e.b) (hp : i64B p) (h : StrayAt w0 g1 g2 p q w) (H : Hid (stray e p q = r)) :
    Calls Try.prog 60 #[enV e v, .pointer (some ⟨g1, 0, none⟩), .pointer (some ⟨g2, 0, none⟩)] w fun x w' => x = .returned (.bool r) ∧ StrayAt w0 g1 g2 e.pos e.epoch w' := by
  obtain ⟨rt, HRT⟩ : ∃ x, Hid (R.right e = x) := ⟨_, Lib.hid rfl⟩
  have HR : Hid (r = !(rt && (decide (e.pos = p + 1) && decide (q ≤ e.epoch)))) := Lib.hid (by rw [← H.out, ← HRT.out]; rfl)
  have HRB : Hid (rt = true → 1 ≤ e.pos ∧ e.pos ≤ 274877906944) := Lib.hid fun h => by
    have := R.right_iff.1 (HRT.out.trans h)
    exact ⟨this.1, this.2.1⟩
  have HV := Lib.hid hv
  have HSM := Lib.hid hs
  have HST := Lib.hid h
  obtain ⟨a, cap, rfl, _⟩ := hv
  clear hs h H
  obtain ⟨pos, ep, st, ex, se, sq, evs⟩ := e
  dsimp only at *
  go_enter Try.func60, Try.ntmps60
  go_wp2_with fail
  refine (Right6_at ⟨pos, ep, st, ex, se, sq, evs⟩ _ rt _ (readsE_below HV.out ((Below.refl _ w).alloc (Nat.le_refl _) _)) HSM.out HRT).mono ?_
  rintro x w1 ⟨rfl, hb1⟩
  have b0 := box_at hb1 0
  have b1 := box_at hb1 1
  simp only [List.getElem?_toArray, List.getElem?_cons_zero, List.getElem?_cons_succ] at b0 b1
  have HS1 := Lib.hid (HST.out.step (below_box hb1))
  have hgn : ∀ j, StrayAt w0 g1 g2 j q w → True := fun _ _ => trivial
  clear hb1 hgn
  have d1 := cell_of_one HS1.out.1
  have d2 := cell_of_one HS1.out.2.1
  have f1 := free_of_one HS1.out.1
  have f2 := free_of_one HS1.out.2.1
  have hne1 : w.heap.size ≠ g1 := by have := lt_of_block HST.out.1; omega
  have hne2 : w.heap.size ≠ g2 := by have := lt_of_block HST.out.2.1; omega
  have hg12 := HS1.out.2.2.1
  have hgne : g1 ≠ g2 := by omega
  have hpb := hp
  unfold i64B at hpb
  have HFIN : Hid (StrayAt w0 g1 g2 pos ep ((w1.setCell ⟨g1, 0, none⟩ (.int .i64 pos)).setCell ⟨g2, 0, none⟩ (.int .i64 ep))) := Lib.hid HS1.out.set
  generalize w.heap.size = gb at *
  clear HST HV HSM hp
  have b0a : ∀ u, (w1.setCell ⟨g1, 0, none⟩ u).cell? ⟨gb, 0, none⟩ = some (.int .i64 pos) := fun u => cell_same b0 (Below.heap_setCell _ _ _ _ hne1)
  have b1a : ∀ u, (w1.setCell ⟨g1, 0, none⟩ u).cell? ⟨gb, 1, none⟩ = some (.int .i64 ep) := fun u => cell_same b1 (Below.heap_setCell _ _ _ _ hne1)
  have d2a : ∀ u, (w1.setCell ⟨g1, 0, none⟩ u).cell? ⟨g2, 0, none⟩ = some (.int .i64 q) := fun u => cell_same d2 (Below.heap_setCell _ _ _ _ (Ne.symm hgne))
  have f2a : ∀ u, (w1.setCell ⟨g1, 0, none⟩ u).frozen? ⟨g2, 0, none⟩ = false := fun u => free_of_one (v := .int .i64 q) (t := 3) (by rw [Below.heap_setCell _ _ _ _ (Ne.symm hgne)]; exact HS1.out.2.1)
  cases rt
  · have HE := Lib.hid (show r = true by rw [HR.out]; rfl)
    go_wp2
    go_region
    all_goals
      go_wp2
      go_ret
      rw [HE.out]
      exact ⟨rfl, HFIN.out.drew⟩
  · have hpos := HRB.out rfl
    obtain ⟨hpos1, hpos2⟩ := hpos
    obtain ⟨hpb1, hpb2⟩ := hpb
    by_cases hpe : pos = p + 1
    · have hw : wrap64 (p + 1) = p + 1 := by unfold wrap64; omega
      have hpi : (pos != wrap64 (p + 1)) = false := by rw [hw]; simp [hpe]
      have hpj : (pos == wrap64 (p + 1)) = true := by rw [hw]; simp [hpe]
      have hpk : (pos == p + 1) = true := by simp [hpe]
      by_cases hqe : q ≤ ep
      · have HE := Lib.hid (show r = false by rw [HR.out, decide_eq_true hpe, decide_eq_true hqe]; rfl)
        have hqi : decide (ep < q) = false := decide_eq_false (by omega)
        have hqj : ¬ ep < q := by omega
        clear hw hpe
        go_wp2
        go_region
        all_goals
          go_wp2
          go_ret
          rw [HE.out]
          exact ⟨rfl, HFIN.out.drew⟩
      · have HE := Lib.hid (show r = true by rw [HR.out, decide_eq_false hqe]; simp)
        have hqj : ep < q := by omega
        clear hw hpe
        go_wp2
        go_region
        all_goals
          go_wp2
          go_ret
          rw [HE.out]
          exact ⟨rfl, HFIN.out.drew⟩
    · have hpi : (pos != wrap64 (p + 1)) = true := by
        have : pos ≠ wrap64 (p + 1) := by unfold wrap64; omega
        simpa using this
      have hpj : (pos == wrap64 (p + 1)) = false := by simpa using hpi
      have HE := Lib.hid (show r = true by rw [HR.out, decide_eq_false hpe]; simp)
      clear hpe
      go_wp2
      go_region
      all_goals
        go_wp2
        go_ret
        rw [HE.out]
        exact ⟨rfl, HFIN.out.drew⟩

set_option maxHeartbeats 1000000 in
set_option maxRecDepth 100000 in
theorem strayFrom_l (p q : Int) (w : World) :
    Calls Try.prog 43 #[.int .i64 p, .int .i64 q] w fun r w' => r = .returned (cloS w.heap.size (w.heap.size + 1)) ∧ StrayAt w w.heap.size (w.heap.size + 1) p q w' := by
  have hmf : ∀ (fn : Fn) (first cap : Array Value) (w : World), (Instr.makeFunc fn first cap).run Try.prog w = .ok (.func fn first cap) w := fun _ _ _ _ => rfl
  go_enter Try.func43, Try.ntmps43
  go_wp2
  go_ret
  refine ⟨rfl, ?_, ?_, Nat.lt_succ_self _, Nat.le_refl _, ((Below.refl _ w).alloc (Nat.le_refl _) _).alloc (by simp) _⟩
  · rw [Below.heap_alloc _ _ _ (by simp)]
    exact heap_alloc_new w _
  · have := heap_alloc_new (w.alloc (.cells #[.int .i64 p] 3)) (.cells #[.int .i64 q] 3)
    rwa [World.size_alloc] at this

/-- The place and the epoch that entry k is held against. -/
def ahP (l : List R.En) (p : Int) : Nat → Int
  | 0 => p
  | k + 1 => (l[k]?.map (·.pos)).getD 0
def ahQ (l : List R.En) (q : Int) : Nat → Int
  | 0 => q
  | k + 1 => (l[k]?.map (·.epoch)).getD 0
def strayK (l : List R.En) (p q : Int) (k : Nat) : Bool := match l[k]? with
  | some e => stray e (ahP l p k) (ahQ l q k)
  | none => false
theorem stray_shift (e : R.En) (l : List R.En) (p q : Int) (k : Nat) : strayK (e :: l) p q (k + 1) = strayK l e.pos e.epoch k := by
  unfold strayK
  rw [List.getElem?_cons_succ]
  cases k with
  | zero => rfl
  | succ k => simp [ahP, ahQ]
theorem follows_of_stray : ∀ (l : List R.En) (p q : Int), (∀ i, i < l.length → strayK l p q i = false) → R.follows l p q = true
  | [], _, _, _ => rfl
  | e :: l, p, q, h => by
    have h0 := h 0 (by simp)
    have h1 := follows_of_stray l e.pos e.epoch fun i hi => by rw [← stray_shift e l p q i]; exact h (i + 1) (by simpa using hi)
    have h5 : stray e p q = false := h0
    unfold stray at h5
    simp only [Bool.not_eq_false', Bool.and_eq_true, decide_eq_true_eq] at h5
    exact R.follows_cons.2 ⟨h5.1, h5.2.1, h5.2.2, h1⟩
theorem stray_of_follows : ∀ (l : List R.En) (p q : Int) (k : Nat), strayK l p q k = true → R.follows l p q = false
  | [], _, _, k, h => by simp [strayK] at h
  | e :: l, p, q, 0, h => by
    cases hf : R.follows (e :: l) p q
    · rfl
    · obtain ⟨h1, h2, h3, _⟩ := R.follows_cons.1 hf
      have h5 : stray e p q = true := h
      unfold stray at h5
      rw [h1, decide_eq_true h2, decide_eq_true h3] at h5
      cases h5
  | e :: l, p, q, k + 1, h => by
    cases hf : R.follows (e :: l) p q
    · rfl
    · obtain ⟨_, _, _, h4⟩ := R.follows_cons.1 hf
      rw [stray_shift] at h
      rw [stray_of_follows l e.pos e.epoch k h] at h4
      cases h4

set_option maxHeartbeats 1000000 in
set_option maxRecDepth 100000 in
theorem Follows_l (es : List EV) (v : Value) (p q : Int) (w : World) (hv : ReadsR w v es) (hl : es.length ≤ 1000) (hs : ∀ x ∈ es, E.Small x.1.b) (hp : i64B p) :
    Calls Try.prog 20 #[v, .int .i64 p, .int .i64 q] w fun r w' => r = .returned (.bool (R.follows (ensOf es) p q)) ∧ Below w.heap.size w w' := by
  obtain ⟨r, HR⟩ : ∃ r, Hid (R.follows (ensOf es) p q = r) := ⟨_, Lib.hid rfl⟩
  rw [HR.out]
  have HV := Lib.hid hv
  have HSM := Lib.hid hs
  have HP := Lib.hid hp
  clear hv hs hp
  go_enter Try.func20, Try.ntmps20
  go_wp2_with fail
  refine (strayFrom_l p q w).mono ?_
  rintro x w1 ⟨rfl, hst⟩
  have HST := Lib.hid hst
  have hb1 := hst.2.2.2.2
  have HB1 := Lib.hid hb1
  clear hst
  have hstep : ∀ k wr (h : k < es.length), StrayAt w w.heap.size (w.heap.size + 1) (ahP (ensOf es) p k) (ahQ (ensOf es) q k) wr → (∀ i, i < k → strayK (ensOf es) p q i = false) →
      Calls Try.prog 60 (#[enV es[k].1 es[k].2] ++ #[.pointer (some ⟨w.heap.size, 0, none⟩), .pointer (some ⟨w.heap.size + 1, 0, none⟩)]) wr fun x w' => x = .returned (.bool (strayK (ensOf es) p q k)) ∧ StrayAt w w.heap.size (w.heap.size + 1) (ahP (ensOf es) p (k + 1)) (ahQ (ensOf es) q (k + 1)) w' := by
    intro k wr h hst hbad
    obtain ⟨a, cap, _, _, _, hx⟩ := readsR_below HV.out hst.2.2.2.2
    have hre := (hx k h).1
    have hg : (ensOf es)[k]? = some es[k].1 := by simp [h]
    have hpb : i64B (ahP (ensOf es) p k) := by
      cases k with
      | zero => exact HP.out
      | succ k =>
        have hg2 : (ensOf es)[k]? = some es[k].1 := by simp [show k < es.length by omega]
        have hb2 := hbad k (Nat.lt_succ_self _)
        unfold strayK at hb2
        rw [hg2] at hb2
        have h5 : stray es[k].1 (ahP (ensOf es) p k) (ahQ (ensOf es) q k) = false := hb2
        unfold stray at h5
        simp only [Bool.not_eq_false', Bool.and_eq_true] at h5
        have h6 := R.right_iff.1 h5.1
        have hl : R.large = 274877906944 := rfl
        have e1 : ahP (ensOf es) p (k + 1) = es[k].1.pos := by simp only [ahP, hg2]; rfl
        rw [e1]
        unfold i64B
        omega
    have e1 : ahP (ensOf es) p (k + 1) = es[k].1.pos := by simp only [ahP, hg]; rfl
    have e2 : ahQ (ensOf es) q (k + 1) = es[k].1.epoch := by simp only [ahQ, hg]; rfl
    rw [e1, e2]
    exact stray_ask es[k].1 es[k].2 w wr _ _ _ _ _ hre (HSM.out _ (List.getElem_mem h)) hpb hst (Lib.hid (by unfold strayK; rw [hg]))
  have hrun := found_run 60 #[.pointer (some ⟨w.heap.size, 0, none⟩), .pointer (some ⟨w.heap.size + 1, 0, none⟩)] es v w1 (fun k wr => StrayAt w w.heap.size (w.heap.size + 1) (ahP (ensOf es) p k) (ahQ (ensOf es) q k) wr)
    (fun k => strayK (ensOf es) p q k) (.inr rfl) hl (readsR_below HV.out hb1) (fun _ _ h => readsR_below HV.out h.2.2.2.2) (fun _ wr o h => h.step ((Below.refl _ wr).alloc (Nat.le_refl _) o)) hstep HST.out
  have HRUN := Lib.hid hrun
  clear hrun hstep HST hb1 HB1
  go_wp2_with fail
  refine HRUN.out.mono ?_
  rintro x w2 ⟨hres, kk, hst2⟩
  have HB2 := Lib.hid hst2.2.2.2.2
  clear hst2 HRUN
  rcases hres with ⟨rfl, k, hk, hbk, -⟩ | ⟨rfl, hall⟩
  · have HE := Lib.hid (show r = false by rw [← HR.out]; exact stray_of_follows _ _ _ k hbk)
    clear hbk
    go_wp2
    go_ret
    rw [HE.out]
    exact ⟨rfl, HB2.out⟩
  · have HE := Lib.hid (show r = true by rw [← HR.out]; exact follows_of_stray _ _ _ (fun i hi => hall i (by rw [← ensOf_len]; exact hi)))
    clear hall
    go_wp2
    go_ret
    rw [HE.out]
    exact ⟨rfl, HB2.out⟩
end Go.Proofs.Ytfhopgficckjkaa
