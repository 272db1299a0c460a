/-
  The reader of package message: one part of each type.
-/
import Derived.Test.YtljcgpdjhjkciaaMsgReader
import Derived.Test.YtljcgpdjhjkciaaRecordTakeErr
namespace Go.Proofs.Ytljcgpdjhjkciaa
open Go.RowKit
attribute [local go_sem] ext_Bd ext_Bl ext_Bt toList_B add_B size_B get_Bt

theorem grown_box {w w' : World} {row : Option Nat} {b : Nat} (h : w.grownBy w' row) (hb : w.heap.size ≤ b) (j : Nat) (u : Value) : w.grownBy (w'.setCell ⟨b, j, none⟩ u) row :=
  ⟨h.os, h.tape, h.output, by have := h.size; simp [World.setCell]; exact this, fun k hk hn => (Below.heap_setCell _ _ _ _ (fun e => by simp at e; omega)).trans (h.block k hk hn)⟩
theorem set_other {w : World} {b k : Nat} {o : Obj} (h : w.heap[k]? = some o) (hne : k ≠ b) (j : Nat) (u : Value) : (w.setCell ⟨b, j, none⟩ u).heap[k]? = some o := (Below.heap_setCell _ _ _ _ (fun e => hne (by simp [e]))).trans h
theorem RC.other {p b : Nat} {left : List UInt8} {err : Nat} {w : World} (h : RC p left err w) (hne : p ≠ b) (j : Nat) (u : Value) : RC p left err (w.setCell ⟨b, j, none⟩ u) := set_other h hne j u
theorem own_other {w : World} {b base : Nat} {t t2 : TypeId} {size n : Nat} {v : Value} {xs : List Value} {cs : Array Value} (h : w.ownsRow base t size v n xs) (hb : w.heap[b]? = some (.cells cs t2 (0, 0))) (ht : t ≠ t2) (j : Nat) (u : Value) : (w.setCell ⟨b, j, none⟩ u).ownsRow base t size v n xs := by
  refine h.kept (Lib.grownBy_setCell w b j u) ?_
  rcases h.2 with ⟨rfl, _⟩ | ⟨g, cap, cur, rfl, _, hg, _⟩
  · exact .inl rfl
  · refine .inr fun e => ?_
    cases e
    rw [hb] at hg
    cases hg
    exact ht rfl
theorem RC.low {p : Nat} {left : List UInt8} {err : Nat} {w w' : World} (h : RC p left err w) (hb : Below w.heap.size w w') : RC p left err w' := (hb.block p (Array.getElem?_eq_some_iff.1 h).1).trans h
theorem two_new (w : World) (A R : Obj) : ((w.alloc A).alloc R).heap[w.heap.size]? = some A ∧ ((w.alloc A).alloc R).heap[w.heap.size + 1]? = some R ∧ Below w.heap.size w ((w.alloc A).alloc R) := by
  refine ⟨new_at2 rfl, new_at (by simp), ((Below.refl _ w).alloc (Nat.le_refl _) A).alloc (by simp) R⟩

theorem rm_number0 {p : Nat} {o : Rs} {w : World} (h : RM p o w) (res : K.Rd Nat) (H : Hid (run N.takeL o = res)) :
    Calls Try.prog 36 #[rdP p] w fun x w' => (∃ n : Nat, x = .returned (.int .i64 (n : Int)) ∧ (∀ a r, res = Sum.inl (a, r) → n = a) ∧ (∀ e, res = Sum.inr e → n = 0)) ∧ RM p (rest res) w' ∧ w.grownBy w' (some p) := by
  have HH := Lib.hid (rm_int h res H)
  clear h H
  go_enter Try.func36, Try.ntmps36
  go_wp2_with fail
  refine HH.out.mono ?_
  rintro x w1 ⟨⟨n, rfl, h1, h2⟩, h3, h4⟩
  go_wp2
  go_ret
  exact ⟨⟨n, rfl, h1, h2⟩, h3, h4⟩
theorem run_takeI (o : Rs) : run M.takeI o = K.bind (run N.takeL o) fun n r => Sum.inl ((n : Int), r) := by
  cases o <;> rfl
/-- A number, as the document's parts have it. -/
theorem rm_number {p : Nat} {o : Rs} {w : World} (h : RM p o w) (res : K.Rd Int) (H : Hid (run M.takeI o = res)) :
    Calls Try.prog 36 #[rdP p] w fun x w' => (∃ z : Int, x = .returned (.int .i64 z) ∧ (∀ a r, res = Sum.inl (a, r) → z = a)) ∧ RM p (rest res) w' ∧ w.grownBy w' (some p) := by
  refine (rm_number0 h _ (Lib.hid rfl)).mono ?_
  rintro x w1 ⟨⟨n, rfl, h1, h2⟩, h3, h4⟩
  have e := H.out
  rw [run_takeI] at e
  rcases hr : run N.takeL o with ⟨a, r⟩ | c
  · rw [hr] at e h1 h3
    have e2 : res = Sum.inl ((a : Int), r) := e.symm
    subst e2
    exact ⟨⟨n, rfl, (fun a2 r2 e3 => by cases e3; rw [h1 a r rfl])⟩, h3, h4⟩
  · rw [hr] at e h3
    have e2 : res = Sum.inr c := e.symm
    subst e2
    exact ⟨⟨n, rfl, (fun a2 r2 e3 => by cases e3)⟩, h3, h4⟩
theorem bind_run {α β : Type} (t : List UInt8 → K.Rd α) (f : α → List UInt8 → K.Rd β) (o : Rs) : run (fun l => K.bind (t l) f) o = K.bind (run t o) f := by cases o <;> rfl
set_option maxHeartbeats 1000000 in
set_option maxRecDepth 100000 in
theorem rm_mark {p : Nat} {o : Rs} {w : World} (h : RM p o w) (res : K.Rd R.Mk) (H : Hid (run M.takeMk o = res)) :
    Calls Try.prog 39 #[rdP p] w fun x w' => (∃ z : R.Mk, x = .returned (.agg #[.int .i64 z.1, .int .i64 z.2]) ∧ (∀ a r, res = Sum.inl (a, r) → z = a)) ∧ RM p (rest res) w' ∧ w.grownBy w' (some p) := by
  obtain ⟨res1, H1⟩ : ∃ x, Hid (run M.takeI o = x) := ⟨_, Lib.hid rfl⟩
  obtain ⟨res2, H2⟩ : ∃ x, Hid (run M.takeI (rest res1) = x) := ⟨_, Lib.hid rfl⟩
  have HE : Hid (rest res = rest res2 ∧ ∀ a r, res = Sum.inl (a, r) → (∃ r1, res1 = Sum.inl (a.1, r1)) ∧ res2 = Sum.inl (a.2, r)) := Lib.hid (by
    have e := H.out
    unfold M.takeMk at e
    rw [bind_run, H1.out] at e
    rcases res1 with ⟨a1, r1⟩ | c
    · have e2 : M.takeI r1 = res2 := H2.out
      have e3 : K.bind (M.takeI r1) (fun b q => Sum.inl ((a1, b), q)) = res := e
      rw [e2] at e3
      rcases res2 with ⟨a2, r2⟩ | c2
      · have e4 : Sum.inl ((a1, a2), r2) = res := e3
        subst e4
        exact ⟨rfl, fun a r e5 => by cases e5; exact ⟨⟨r1, rfl⟩, rfl⟩⟩
      · have e4 : Sum.inr c2 = res := e3
        subst e4
        exact ⟨rfl, fun a r e5 => by cases e5⟩
    · have e2 : (Sum.inr c : K.Rd Int) = res2 := H2.out
      have e3 : Sum.inr c = res := e
      subst e2 e3
      exact ⟨rfl, fun a r e5 => by cases e5⟩)
  have HA0 : Hid ((w.alloc (.cells #[.int .i64 0, .int .i64 0] 94)).heap[w.heap.size]? = some (.cells #[.int .i64 0, .int .i64 0] 94 (0, 0))) := Lib.hid (new_at rfl)
  have HW := Lib.hid (h.new (.cells #[.int .i64 0, .int .i64 0] 94))
  have hlt := h.lt
  clear h H
  go_enter Try.func39, Try.ntmps39
  go_wp2_with fail
  refine (rm_number HW.out res1 H1).mono ?_
  rintro x w1 ⟨⟨z1, rfl, hz1⟩, h1, hg1⟩
  have HZ1 := Lib.hid hz1
  have HM1 := Lib.hid h1
  have HG1 := Lib.hid hg1
  clear hz1 h1 hg1
  go_wp2_with fail
  refine (rm_number HM1.out res2 H2).mono ?_
  rintro x w2 ⟨⟨z2, rfl, hz2⟩, h1, hg1⟩
  have HZ2 := Lib.hid hz2
  have HM2 := Lib.hid h1
  have HG2 := Lib.hid (HG1.out.trans hg1)
  have HA := Lib.hid (block_kept HA0.out HG2.out (by omega))
  have HGW : Hid (w.grownBy w2 (some p)) := Lib.hid ((World.grownBy_alloc w _ _).trans HG2.out)
  clear hz2 h1 hg1 HG1 HM1 HW HA0
  have a0 := block_cell HA.out 0
  have a1 := block_cell HA.out 1
  simp at a0 a1
  have l0 := block_loose HA.out 0
  have l1 := block_loose HA.out 1
  go_wp2
  have HK := Lib.hid (set_two (a := .int .i64 z1) (b := .int .i64 z2) HA.out)
  have HF := Lib.hid (HM2.out.kept (Lib.grownBy_setCell w2 w.heap.size 0 (.int .i64 z1)) (by simp; omega))
  have HF2 := Lib.hid (HF.out.kept (Lib.grownBy_setCell _ w.heap.size 1 (.int .i64 z2)) (by simp; omega))
  have HG := Lib.hid (grown_box (grown_box HGW.out (Nat.le_refl _) 0 (.int .i64 z1)) (Nat.le_refl _) 1 (.int .i64 z2))
  generalize (w2.setCell ⟨w.heap.size, 0, none⟩ (.int .i64 z1)).setCell ⟨w.heap.size, 1, none⟩ (.int .i64 z2) = w9 at HK HF2 HG ⊢
  obtain ⟨k0, k1⟩ := HK.out
  exact bodyPost_ret (v := .agg #[.int .i64 z1, .int .i64 z2]) (by simp [results, Try.results39, go_sem, k0, k1]) rfl ⟨⟨(z1, z2), rfl, (fun a r e => by
    obtain ⟨⟨r1, e1⟩, e2⟩ := HE.out.2 a r e
    have h1 := HZ1.out _ _ e1
    have h2 := HZ2.out _ _ e2
    exact Prod.ext h1 h2)⟩, by rw [HE.out.1]; exact HF2.out, HG.out⟩
set_option maxHeartbeats 1000000 in
set_option maxRecDepth 100000 in
theorem takeStream_l (l : List UInt8) (w : World) (hl : l.length ≤ 1000000) :
    Calls Try.prog 45 #[.string (B l)] w fun e w' => e = .returned (ttRes (N.takeT l ((200 : Nat) : Int))) ∧ sQuiet w w' := by
  obtain ⟨res, HR⟩ : ∃ res, Hid (N.takeT l ((200 : Nat) : Int) = res) := ⟨_, Lib.hid rfl⟩
  rw [HR.out]
  go_enter Try.func45, Try.ntmps45
  go_wp2_with fail
  refine (TakeText_l l 200 w (by omega)).mono ?_
  rintro x w1 ⟨rfl, hq⟩
  rw [show N.takeT l 200 = res from HR.out]
  rcases res with ⟨a, r⟩ | e
  · rw [show ttRes (Sum.inl (a, r)) = _ from ttRes_ok a r]
    go_wp2
    go_ret3
    exact ⟨rfl, hq⟩
  · rw [show ttRes (Sum.inr e) = _ from ttRes_bad e]
    go_wp2
    go_ret3
    exact ⟨rfl, hq⟩
set_option maxHeartbeats 1000000 in
set_option maxRecDepth 100000 in
theorem rm_text {p : Nat} {o : Rs} {w : World} (h : RM p o w) (res : K.Rd (List UInt8)) (H : Hid (run (fun l => N.takeT l ((200 : Nat) : Int)) o = res)) :
    Calls Try.prog 44 #[rdP p, .func (.func 45) #[] #[]] w fun x w' => (∃ n : List UInt8, x = .returned (.string (B n)) ∧ (∀ a r, res = Sum.inl (a, r) → n = a)) ∧ RM p (rest res) w' ∧ w.grownBy w' (some p) := by
  obtain ⟨left, err, hc, hl, ho⟩ := h
  have HC := Lib.hid hc
  obtain ⟨c0, c1, l0, l1⟩ := hc.cells
  match o, ho with
  | .inr e, ho =>
    obtain ⟨rfl, he⟩ := ho
    have hres := H.out
    obtain rfl : res = Sum.inr err := hres.symm
    obtain ⟨h1, h2⟩ := err_bd he
    have HF : Hid (RM p (rest (Sum.inr err : K.Rd (List UInt8))) w) := Lib.hid ⟨left, err, hc, hl, rfl, he⟩
    clear hc H hres
    go_enter Try.func44, Try.ntmps44
    go_wp2
    go_ret
    exact ⟨⟨[], rfl, (fun a r e => by cases e)⟩, HF.out, grown_refl _ _⟩
  | .inl l, ho =>
    obtain ⟨rfl, rfl⟩ := ho
    have hres : N.takeT left ((200 : Nat) : Int) = res := H.out
    have HR := Lib.hid hres
    clear hc H hres
    go_enter Try.func44, Try.ntmps44
    go_wp2_with fail
    refine (takeStream_l left w (by omega)).mono ?_
    rintro x w1 ⟨rfl, n1, rfl⟩
    rw [HR.out]
    rcases res with ⟨a, r⟩ | e
    · have hrl := takeT_len HR.out
      have HF : Hid (RM p (.inl r) (((w.drewN n1).setCell ⟨p, 0, none⟩ (.string (B r))).setCell ⟨p, 1, none⟩ (.int .i64 ((0 : Nat) : Int)))) := Lib.hid ⟨r, 0, RC.set (w := w.drewN n1) HC.out, by omega, rfl, rfl⟩
      rw [show ttRes (Sum.inl (a, r)) = _ from ttRes_ok a r]
      go_wp2
      go_ret
      exact ⟨⟨a, rfl, (fun _ _ e => by cases e; rfl)⟩, HF.out, grown_two (grown_quiet ⟨n1, rfl⟩) _ _⟩
    · have hpos := K.txt_errs _ _ e HR.out
      have HF : Hid (RM p (.inr e) (((w.drewN n1).setCell ⟨p, 0, none⟩ (.string (B []))).setCell ⟨p, 1, none⟩ (.int .i64 (e : Int)))) := Lib.hid ⟨[], e, RC.set (w := w.drewN n1) HC.out, by simp, rfl, hpos⟩
      rw [show ttRes (Sum.inr e) = _ from ttRes_bad e]
      go_wp2
      go_ret
      exact ⟨⟨[], rfl, (fun _ _ e => by cases e)⟩, HF.out, grown_two (grown_quiet ⟨n1, rfl⟩) _ _⟩

set_option maxHeartbeats 4000000 in
set_option maxRecDepth 100000 in
theorem rm_event_err {p : Nat} {w : World} {left : List UInt8} {err : Nat} (hc : RC p left err w) (hl : left.length ≤ 1000000) (hpos : 0 < err) (res : K.Rd E.Ev) (hres : res = Sum.inr err) :
    Calls Try.prog 70 #[rdP p, .func (.func 71) #[] #[]] w fun x w' => (∃ z : E.Ev, x = .returned (evV z) ∧ (∀ a r, res = Sum.inl (a, r) → z = a)) ∧ RM p (rest res) w' ∧ w.grownBy w' (some p) := by
  obtain ⟨hA4, hA5, hB⟩ := two_new w (.cells #[.string ⟨#[]⟩, .string ⟨#[]⟩] 57) (.cells #[.string ⟨#[]⟩, .string ⟨#[]⟩] 57)
  have hplt : p < w.heap.size := (Array.getElem?_eq_some_iff.1 hc).1
  have hc2 := hc.low hB
  have HC := Lib.hid hc2
  obtain ⟨c0, c1, l0, l1⟩ := hc2.cells
  subst hres
  obtain ⟨h1, h2⟩ := err_bd hpos
  have hrlen := hl
  obtain ⟨W9, HW9⟩ : ∃ W9, Hid ((w.alloc (.cells #[.string ⟨#[]⟩, .string ⟨#[]⟩] 57)).alloc (.cells #[.string ⟨#[]⟩, .string ⟨#[]⟩] 57) = W9) := ⟨_, Lib.hid rfl⟩
  have HA4 : Hid (W9.heap[w.heap.size]? = some (.cells #[.string ⟨#[]⟩, .string ⟨#[]⟩] 57 (0, 0))) := Lib.hid (by rw [← HW9.out]; exact hA4)
  have HA5 : Hid (W9.heap[w.heap.size + 1]? = some (.cells #[.string ⟨#[]⟩, .string ⟨#[]⟩] 57 (0, 0))) := Lib.hid (by rw [← HW9.out]; exact hA5)
  have HRC : Hid (RC p left err W9) := Lib.hid (by rw [← HW9.out]; exact HC.out)
  have HG : Hid (w.grownBy W9 (some p)) := Lib.hid (by rw [← HW9.out]; exact grown_below hB)
  clear hc hA4 hA5 hB hc2 HC
  go_enter Try.func70, Try.ntmps70
  go_upto_region 4 with (fail)
  rw [HW9.out]
  clear HW9 c0 c1 l0 l1
  have x0 := block_cell HA5.out 0
  have x1 := block_cell HA5.out 1
  simp at x0 x1
  have y0 := block_cell HA4.out 0
  have y1 := block_cell HA4.out 1
  simp at y0 y1
  have m0 := block_loose HA4.out 0
  have m1 := block_loose HA4.out 1
  go_wp2
  have HK : Hid ((((W9.setCell ⟨w.heap.size, 0, none⟩ (.string ⟨#[]⟩)).setCell ⟨w.heap.size, 1, none⟩ (.string ⟨#[]⟩))).heap[w.heap.size]? = some (.cells #[.string ⟨#[]⟩, .string ⟨#[]⟩] 57 (0, 0))) := Lib.hid (set_block (set_block (HA4.out) 0 (.string ⟨#[]⟩)) 1 (.string ⟨#[]⟩))
  have HF : Hid (RM p (.inr err) (((W9.setCell ⟨w.heap.size, 0, none⟩ (.string ⟨#[]⟩)).setCell ⟨w.heap.size, 1, none⟩ (.string ⟨#[]⟩)))) := Lib.hid ⟨left, err, by exact ((HRC.out.other (by omega) 0 _).other (by omega) 1 _), by first | exact hrlen | simp | omega, by first | exact ⟨rfl, rfl⟩ | exact ⟨rfl, hpos⟩⟩
  have HGF : Hid (w.grownBy (((W9.setCell ⟨w.heap.size, 0, none⟩ (.string ⟨#[]⟩)).setCell ⟨w.heap.size, 1, none⟩ (.string ⟨#[]⟩))) (some p)) := Lib.hid (grown_box (grown_box (HG.out) (Nat.le_refl _) 0 _) (Nat.le_refl _) 1 _)
  generalize ((W9.setCell ⟨w.heap.size, 0, none⟩ (.string ⟨#[]⟩)).setCell ⟨w.heap.size, 1, none⟩ (.string ⟨#[]⟩)) = w9 at HK HF HGF ⊢
  have k0 := block_cell HK.out 0
  have k1 := block_cell HK.out 1
  simp at k0 k1
  exact bodyPost_ret (v := .agg #[.string ⟨#[]⟩, .string ⟨#[]⟩]) (by simp [results, Try.results70, go_sem, k0, k1]) rfl ⟨⟨([], []), rfl, (fun a r e => by cases e)⟩, HF.out, HGF.out⟩

set_option maxHeartbeats 4000000 in
set_option maxRecDepth 100000 in
theorem rm_event_ok {p : Nat} {w : World} {left : List UInt8} {err : Nat} (hc : RC p left err w) (hl : left.length ≤ 1000000) (herr : err = 0) (a : E.Ev) (r : List UInt8) (HR : Hid (E.takeEv left = Sum.inl (a, r))) (res : K.Rd E.Ev) (hres : res = Sum.inl (a, r)) :
    Calls Try.prog 70 #[rdP p, .func (.func 71) #[] #[]] w fun x w' => (∃ z : E.Ev, x = .returned (evV z) ∧ (∀ a r, res = Sum.inl (a, r) → z = a)) ∧ RM p (rest res) w' ∧ w.grownBy w' (some p) := by
  obtain ⟨hA4, hA5, hB⟩ := two_new w (.cells #[.string ⟨#[]⟩, .string ⟨#[]⟩] 57) (.cells #[.string ⟨#[]⟩, .string ⟨#[]⟩] 57)
  have hplt : p < w.heap.size := (Array.getElem?_eq_some_iff.1 hc).1
  have hc2 := hc.low hB
  have HC := Lib.hid hc2
  obtain ⟨c0, c1, l0, l1⟩ := hc2.cells
  subst hres herr
  have HA4a := Lib.hid hA4
  have HA5a := Lib.hid hA5
  have HBB := Lib.hid hB
  clear hc hA4 hA5 hB hc2
  have HQ : Hid (evRes (E.takeEv left) = (a, r, 0)) := Lib.hid (by rw [HR.out]; rfl)
  go_enter Try.func70, Try.ntmps70
  go_wp2_with fail
  refine (ETake_at left a r 0 _ (by omega) HQ).mono ?_
  rintro x w1 ⟨rfl, hb1⟩
  have HC1 := Lib.hid (HC.out.low hb1)
  have HA41 := Lib.hid (block_below HA4a.out hb1)
  have HA51 := Lib.hid (block_below HA5a.out hb1)
  have HG1 := Lib.hid ((grown_below HBB.out).trans (grown_below (row := some p) hb1))
  have hrlen : r.length ≤ 1000000 := by have := congrArg List.length (E.evC.inv left a r HR.out).1; rw [List.length_append] at this; omega
  clear hb1 HC HA4a HA5a HBB c0 c1 l0 l1
  obtain ⟨c0, c1, l0, l1⟩ := HC1.out.cells
  have b0 := block_cell HA51.out 0
  have b1 := block_cell HA51.out 1
  simp at b0 b1
  have f0 := block_loose HA51.out 0
  have f1 := block_loose HA51.out 1
  go_upto_region 4 with (fail)
  have HA5 : Hid (((((w1.setCell ⟨w.heap.size + 1, 0, none⟩ (.string (B a.1))).setCell ⟨w.heap.size + 1, 1, none⟩ (.string (B a.2))).setCell ⟨p, 0, none⟩ (.string (B r))).setCell ⟨p, 1, none⟩ (.int .i64 ((0 : Nat) : Int))).heap[w.heap.size + 1]? = some (.cells #[.string (B a.1), .string (B a.2)] 57 (0, 0))) := Lib.hid (set_other (set_other (set_block (set_block (HA51.out) 0 (.string (B a.1))) 1 (.string (B a.2))) (by omega) 0 _) (by omega) 1 _)
  have HA4 : Hid (((((w1.setCell ⟨w.heap.size + 1, 0, none⟩ (.string (B a.1))).setCell ⟨w.heap.size + 1, 1, none⟩ (.string (B a.2))).setCell ⟨p, 0, none⟩ (.string (B r))).setCell ⟨p, 1, none⟩ (.int .i64 ((0 : Nat) : Int))).heap[w.heap.size]? = some (.cells #[.string ⟨#[]⟩, .string ⟨#[]⟩] 57 (0, 0))) := Lib.hid (set_other (set_other (set_other (set_other HA41.out (by omega) 0 _) (by omega) 1 _) (by omega) 0 _) (by omega) 1 _)
  have HRC : Hid (RC p r 0 ((((w1.setCell ⟨w.heap.size + 1, 0, none⟩ (.string (B a.1))).setCell ⟨w.heap.size + 1, 1, none⟩ (.string (B a.2))).setCell ⟨p, 0, none⟩ (.string (B r))).setCell ⟨p, 1, none⟩ (.int .i64 ((0 : Nat) : Int)))) := Lib.hid (RC.set ((HC1.out.other (by omega) 0 _).other (by omega) 1 _))
  have HG : Hid (w.grownBy ((((w1.setCell ⟨w.heap.size + 1, 0, none⟩ (.string (B a.1))).setCell ⟨w.heap.size + 1, 1, none⟩ (.string (B a.2))).setCell ⟨p, 0, none⟩ (.string (B r))).setCell ⟨p, 1, none⟩ (.int .i64 ((0 : Nat) : Int))) (some p)) := Lib.hid (grown_two (grown_box (grown_box (HG1.out) (by omega) 0 _) (by omega) 1 _) _ _)
  generalize ((((w1.setCell ⟨w.heap.size + 1, 0, none⟩ (.string (B a.1))).setCell ⟨w.heap.size + 1, 1, none⟩ (.string (B a.2))).setCell ⟨p, 0, none⟩ (.string (B r))).setCell ⟨p, 1, none⟩ (.int .i64 ((0 : Nat) : Int))) = W9 at HA5 HA4 HRC HG ⊢
  clear HC1 HA41 HA51 HG1 c0 c1 l0 l1 b0 f0 b1 f1
  have x0 := block_cell HA5.out 0
  have x1 := block_cell HA5.out 1
  simp at x0 x1
  have y0 := block_cell HA4.out 0
  have y1 := block_cell HA4.out 1
  simp at y0 y1
  have m0 := block_loose HA4.out 0
  have m1 := block_loose HA4.out 1
  go_wp2
  have HK : Hid ((((W9.setCell ⟨w.heap.size, 0, none⟩ (.string (B a.1))).setCell ⟨w.heap.size, 1, none⟩ (.string (B a.2)))).heap[w.heap.size]? = some (.cells #[.string (B a.1), .string (B a.2)] 57 (0, 0))) := Lib.hid (set_block (set_block (HA4.out) 0 (.string (B a.1))) 1 (.string (B a.2)))
  have HF : Hid (RM p (.inl r) (((W9.setCell ⟨w.heap.size, 0, none⟩ (.string (B a.1))).setCell ⟨w.heap.size, 1, none⟩ (.string (B a.2))))) := Lib.hid ⟨r, 0, by exact ((HRC.out.other (by omega) 0 _).other (by omega) 1 _), by first | exact hrlen | simp | omega, by first | exact ⟨rfl, rfl⟩ | exact ⟨rfl, hpos⟩⟩
  have HGF : Hid (w.grownBy (((W9.setCell ⟨w.heap.size, 0, none⟩ (.string (B a.1))).setCell ⟨w.heap.size, 1, none⟩ (.string (B a.2)))) (some p)) := Lib.hid (grown_box (grown_box (HG.out) (Nat.le_refl _) 0 _) (Nat.le_refl _) 1 _)
  generalize ((W9.setCell ⟨w.heap.size, 0, none⟩ (.string (B a.1))).setCell ⟨w.heap.size, 1, none⟩ (.string (B a.2))) = w9 at HK HF HGF ⊢
  have k0 := block_cell HK.out 0
  have k1 := block_cell HK.out 1
  simp at k0 k1
  exact bodyPost_ret (v := .agg #[.string (B a.1), .string (B a.2)]) (by simp [results, Try.results70, go_sem, k0, k1]) rfl ⟨⟨a, rfl, (fun _ _ e => by cases e; rfl)⟩, HF.out, HGF.out⟩

set_option maxHeartbeats 4000000 in
set_option maxRecDepth 100000 in
theorem rm_event_bad {p : Nat} {w : World} {left : List UInt8} {err : Nat} (hc : RC p left err w) (hl : left.length ≤ 1000000) (herr : err = 0) (e : Nat) (HR : Hid (E.takeEv left = Sum.inr e)) (res : K.Rd E.Ev) (hres : res = Sum.inr e) :
    Calls Try.prog 70 #[rdP p, .func (.func 71) #[] #[]] w fun x w' => (∃ z : E.Ev, x = .returned (evV z) ∧ (∀ a r, res = Sum.inl (a, r) → z = a)) ∧ RM p (rest res) w' ∧ w.grownBy w' (some p) := by
  obtain ⟨hA4, hA5, hB⟩ := two_new w (.cells #[.string ⟨#[]⟩, .string ⟨#[]⟩] 57) (.cells #[.string ⟨#[]⟩, .string ⟨#[]⟩] 57)
  have hplt : p < w.heap.size := (Array.getElem?_eq_some_iff.1 hc).1
  have hc2 := hc.low hB
  have HC := Lib.hid hc2
  obtain ⟨c0, c1, l0, l1⟩ := hc2.cells
  subst hres herr
  have HA4a := Lib.hid hA4
  have HA5a := Lib.hid hA5
  have HBB := Lib.hid hB
  clear hc hA4 hA5 hB hc2
  have hpos := E.ev_errs left e HR.out
  have HQ : Hid (evRes (E.takeEv left) = (([], []), [], e)) := Lib.hid (by rw [HR.out]; rfl)
  go_enter Try.func70, Try.ntmps70
  go_wp2_with fail
  refine (ETake_at left ([], []) [] e _ (by omega) HQ).mono ?_
  rintro x w1 ⟨rfl, hb1⟩
  have HC1 := Lib.hid (HC.out.low hb1)
  have HA41 := Lib.hid (block_below HA4a.out hb1)
  have HA51 := Lib.hid (block_below HA5a.out hb1)
  have HG1 := Lib.hid ((grown_below HBB.out).trans (grown_below (row := some p) hb1))
  have hrlen : ([] : List UInt8).length ≤ 1000000 := by simp
  clear hb1 HC HA4a HA5a HBB c0 c1 l0 l1
  obtain ⟨c0, c1, l0, l1⟩ := HC1.out.cells
  have b0 := block_cell HA51.out 0
  have b1 := block_cell HA51.out 1
  simp at b0 b1
  have f0 := block_loose HA51.out 0
  have f1 := block_loose HA51.out 1
  go_upto_region 4 with (fail)
  have HA5 : Hid (((((w1.setCell ⟨w.heap.size + 1, 0, none⟩ (.string (B []))).setCell ⟨w.heap.size + 1, 1, none⟩ (.string (B []))).setCell ⟨p, 0, none⟩ (.string (B []))).setCell ⟨p, 1, none⟩ (.int .i64 (e : Int))).heap[w.heap.size + 1]? = some (.cells #[.string (B []), .string (B [])] 57 (0, 0))) := Lib.hid (set_other (set_other (set_block (set_block (HA51.out) 0 (.string (B []))) 1 (.string (B []))) (by omega) 0 _) (by omega) 1 _)
  have HA4 : Hid (((((w1.setCell ⟨w.heap.size + 1, 0, none⟩ (.string (B []))).setCell ⟨w.heap.size + 1, 1, none⟩ (.string (B []))).setCell ⟨p, 0, none⟩ (.string (B []))).setCell ⟨p, 1, none⟩ (.int .i64 (e : Int))).heap[w.heap.size]? = some (.cells #[.string ⟨#[]⟩, .string ⟨#[]⟩] 57 (0, 0))) := Lib.hid (set_other (set_other (set_other (set_other HA41.out (by omega) 0 _) (by omega) 1 _) (by omega) 0 _) (by omega) 1 _)
  have HRC : Hid (RC p [] e ((((w1.setCell ⟨w.heap.size + 1, 0, none⟩ (.string (B []))).setCell ⟨w.heap.size + 1, 1, none⟩ (.string (B []))).setCell ⟨p, 0, none⟩ (.string (B []))).setCell ⟨p, 1, none⟩ (.int .i64 (e : Int)))) := Lib.hid (RC.set ((HC1.out.other (by omega) 0 _).other (by omega) 1 _))
  have HG : Hid (w.grownBy ((((w1.setCell ⟨w.heap.size + 1, 0, none⟩ (.string (B []))).setCell ⟨w.heap.size + 1, 1, none⟩ (.string (B []))).setCell ⟨p, 0, none⟩ (.string (B []))).setCell ⟨p, 1, none⟩ (.int .i64 (e : Int))) (some p)) := Lib.hid (grown_two (grown_box (grown_box (HG1.out) (by omega) 0 _) (by omega) 1 _) _ _)
  generalize ((((w1.setCell ⟨w.heap.size + 1, 0, none⟩ (.string (B []))).setCell ⟨w.heap.size + 1, 1, none⟩ (.string (B []))).setCell ⟨p, 0, none⟩ (.string (B []))).setCell ⟨p, 1, none⟩ (.int .i64 (e : Int))) = W9 at HA5 HA4 HRC HG ⊢
  clear HC1 HA41 HA51 HG1 c0 c1 l0 l1 b0 f0 b1 f1
  have x0 := block_cell HA5.out 0
  have x1 := block_cell HA5.out 1
  simp at x0 x1
  have y0 := block_cell HA4.out 0
  have y1 := block_cell HA4.out 1
  simp at y0 y1
  have m0 := block_loose HA4.out 0
  have m1 := block_loose HA4.out 1
  go_wp2
  have HK : Hid ((((W9.setCell ⟨w.heap.size, 0, none⟩ (.string (B []))).setCell ⟨w.heap.size, 1, none⟩ (.string (B [])))).heap[w.heap.size]? = some (.cells #[.string (B []), .string (B [])] 57 (0, 0))) := Lib.hid (set_block (set_block (HA4.out) 0 (.string (B []))) 1 (.string (B [])))
  have HF : Hid (RM p (.inr e) (((W9.setCell ⟨w.heap.size, 0, none⟩ (.string (B []))).setCell ⟨w.heap.size, 1, none⟩ (.string (B []))))) := Lib.hid ⟨[], e, by exact ((HRC.out.other (by omega) 0 _).other (by omega) 1 _), by first | exact hrlen | simp | omega, by first | exact ⟨rfl, rfl⟩ | exact ⟨rfl, hpos⟩⟩
  have HGF : Hid (w.grownBy (((W9.setCell ⟨w.heap.size, 0, none⟩ (.string (B []))).setCell ⟨w.heap.size, 1, none⟩ (.string (B [])))) (some p)) := Lib.hid (grown_box (grown_box (HG.out) (Nat.le_refl _) 0 _) (Nat.le_refl _) 1 _)
  generalize ((W9.setCell ⟨w.heap.size, 0, none⟩ (.string (B []))).setCell ⟨w.heap.size, 1, none⟩ (.string (B []))) = w9 at HK HF HGF ⊢
  have k0 := block_cell HK.out 0
  have k1 := block_cell HK.out 1
  simp at k0 k1
  exact bodyPost_ret (v := .agg #[.string (B []), .string (B [])]) (by simp [results, Try.results70, go_sem, k0, k1]) rfl ⟨⟨([], []), rfl, (fun a r e => by cases e)⟩, HF.out, HGF.out⟩
theorem rm_event0 {p : Nat} {o : Rs} {w : World} (h : RM p o w) (res : K.Rd E.Ev) (H : Hid (run E.takeEv o = res)) :
    Calls Try.prog 70 #[rdP p, .func (.func 71) #[] #[]] w fun x w' => (∃ z : E.Ev, x = .returned (evV z) ∧ (∀ a r, res = Sum.inl (a, r) → z = a)) ∧ RM p (rest res) w' ∧ w.grownBy w' (some p) := by
  obtain ⟨left, err, hc, hl, ho⟩ := h
  match o, ho with
  | .inr e, ho => exact rm_event_err hc hl (by rw [ho.1]; exact ho.2) res (by rw [ho.1]; exact H.out.symm)
  | .inl l, ho =>
    obtain ⟨h0, rfl⟩ := ho
    have hres : E.takeEv left = res := H.out
    rcases res with ⟨a, r⟩ | e
    · exact rm_event_ok hc hl h0 a r (Lib.hid hres) _ rfl
    · exact rm_event_bad hc hl h0 e (Lib.hid hres) _ rfl
theorem fits_small {b : E.Bat} (hf : E.fits b = 0) : E.Small b := by
  obtain ⟨⟨hst, _⟩, _, hall⟩ := E.fits_inv hf
  have := (nameL_len hst).2
  refine E.Small.of (by omega) fun e he => ?_
  have := E.right_bd (List.all_eq_true.1 hall e he)
  omega
theorem right_small {e : R.En} (h : R.right e = true) : E.Small e.b := fits_small (R.right_iff.1 h).2.2.2.2
end Go.Proofs.Ytljcgpdjhjkciaa
