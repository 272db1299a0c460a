/-
  The reader of package message: its two cells, and the methods that take numbers and texts. The reader of package message: one part of each type. The reader of package message: a batch. The reader of package message: an entry. The reader of package message: the methods event, entry and outcome. The reader of package message: lists. Parts taken one behind the other: what the reader's steps say of the document's. The reader of package message: a message of each kind. The walk of Take of package message, at any bytes.
-/
import Derived.Test.YtljcgpdjhjkciaaGreatMsgPut
import Derived.Test.YtljcgpdjhjkciaaGreatNumTake2
import Derived.Deep.DeepCutAuto
import Derived.Test.YtljcgpdjhjkciaaGreatRecordTakeErr
import Derived.Test.YtljcgpdjhjkciaaGreatRecordRowE
namespace Go.Proofs.YtljcgpdjhjkciaaGreat
open Go.RowKit
attribute [local go_sem] ext_Bd ext_Bl ext_Bt toList_B add_B size_B get_Bt

/-- What is left to be read, or the first error. -/
abbrev Rs := Sum (List UInt8) Nat
def rest {α : Type} : K.Rd α → Rs
  | .inl (_, r) => .inl r
  | .inr e => .inr e
def run {α : Type} (take : List UInt8 → K.Rd α) : Rs → K.Rd α
  | .inl l => take l
  | .inr e => .inr e
def RsOk (o : Rs) (left : List UInt8) (err : Nat) : Prop :=
  match o with
  | .inl l => err = 0 ∧ left = l
  | .inr e => err = e ∧ 0 < e
/-- The reader in block p. -/
def RC (p : Nat) (left : List UInt8) (err : Nat) (w : World) : Prop := w.heap[p]? = some (.cells #[.string (B left), .int .i64 (err : Int)] 101 (0, 0))
def RM (p : Nat) (o : Rs) (w : World) : Prop := ∃ left err, RC p left err w ∧ left.length ≤ 1000000 ∧ RsOk o left err
theorem RM.lt {p : Nat} {o : Rs} {w : World} (h : RM p o w) : p < w.heap.size := by obtain ⟨_, _, hc, _⟩ := h; exact (Array.getElem?_eq_some_iff.1 hc).1
theorem RM.call {p : Nat} {o : Rs} {w w' : World} (h : RM p o w) (hb : Below w.heap.size w w') : RM p o w' := by
  obtain ⟨l, e, hc, h2⟩ := h
  exact ⟨l, e, (hb.block p (Array.getElem?_eq_some_iff.1 hc).1).trans hc, h2⟩
theorem RM.kept {p : Nat} {o : Rs} {w w' : World} {row : Option Nat} (h : RM p o w) (hg : w.grownBy w' row) (hn : some p ≠ row) : RM p o w' := by
  obtain ⟨l, e, hc, h2⟩ := h
  exact ⟨l, e, (hg.block p (Array.getElem?_eq_some_iff.1 hc).1 hn).trans hc, h2⟩
theorem RM.new {p : Nat} {o : Rs} {w : World} (h : RM p o w) (ob : Obj) : RM p o (w.alloc ob) := h.call ((Below.refl _ w).alloc (Nat.le_refl _) ob)
theorem grown_below {w w' : World} {row : Option Nat} (hb : Below w.heap.size w w') : w.grownBy w' row := ⟨hb.os, hb.tape, hb.output, hb.size, fun k hk _ => hb.block k hk⟩
theorem grown_refl (w : World) (row : Option Nat) : w.grownBy w row := ⟨rfl, rfl, rfl, Nat.le_refl _, fun _ _ _ => rfl⟩
theorem RC.cells {p : Nat} {left : List UInt8} {err : Nat} {w : World} (h : RC p left err w) : w.cell? ⟨p, 0, none⟩ = some (.string (B left)) ∧ w.cell? ⟨p, 1, none⟩ = some (.int .i64 (err : Int)) ∧ w.frozen? ⟨p, 0, none⟩ = false ∧ w.frozen? ⟨p, 1, none⟩ = false :=
  ⟨by have := block_cell h 0; simpa using this, by have := block_cell h 1; simpa using this, block_loose h 0, block_loose h 1⟩
theorem RC.set {p : Nat} {left r : List UInt8} {err c : Nat} {w : World} (h : RC p left err w) : RC p r c ((w.setCell ⟨p, 0, none⟩ (.string (B r))).setCell ⟨p, 1, none⟩ (.int .i64 (c : Int))) := set_block (set_block h 0 _) 1 _
theorem grown_two {p : Nat} {w w' : World} (h : w.grownBy w' (some p)) (u v : Value) : w.grownBy ((w'.setCell ⟨p, 0, none⟩ u).setCell ⟨p, 1, none⟩ v) (some p) := grown_set (grown_set h 0 u) 1 v
theorem err_bd {e : Nat} (h : 0 < e) : ((e : Int) == 0) = false ∧ ¬ e = 0 := ⟨beq_eq_false_iff_ne.2 (by omega), by omega⟩

set_option maxHeartbeats 1000000 in
set_option maxRecDepth 100000 in
theorem rm_int {p : Nat} {o : Rs} {w : World} (h : RM p o w) (res : K.Rd Nat) (H : Hid (run N.takeL o = res)) :
    Calls Tryz.prog 71 #[rdP p, .func (.func 72) #[] #[]] w fun x w' => (∃ n : Nat, x = .returned (.int .i64 (n : Int)) ∧ (∀ a r, res = Sum.inl (a, r) → n = a) ∧ (∀ e, res = Sum.inr e → n = 0)) ∧ RM p (rest res) w' ∧ w.grownBy w' (some p) := by
  obtain ⟨left, err, hc, hl, ho⟩ := h
  have HC := Lib.hid hc
  obtain ⟨c0, c1, l0, l1⟩ := hc.cells
  match o, ho with
  | .inr e, ho =>
    obtain ⟨rfl, he⟩ := ho
    have hres := H.out
    obtain rfl : res = Sum.inr err := hres.symm
    obtain ⟨h1, h2⟩ := err_bd he
    have HF : Hid (RM p (rest (Sum.inr err : K.Rd Nat)) w) := Lib.hid ⟨left, err, hc, hl, rfl, he⟩
    clear hc H hres
    go_enter Tryz.func71, Tryz.ntmps71
    go_wp2
    go_ret
    exact ⟨⟨0, rfl, (fun a r e => by cases e), fun _ _ => rfl⟩, HF.out, grown_refl _ _⟩
  | .inl l, ho =>
    obtain ⟨rfl, rfl⟩ := ho
    have hres : N.takeL left = res := H.out
    have HR := Lib.hid hres
    clear hc H hres
    go_enter Tryz.func71, Tryz.ntmps71
    go_wp2_with fail
    refine (Take_l left w (by omega)).mono ?_
    rintro x w1 ⟨rfl, n1, rfl⟩
    rw [HR.out]
    rcases res with ⟨a, r⟩ | e
    · have hrl := takeL_len HR.out
      have HF : Hid (RM p (.inl r) (((w.drewN n1).setCell ⟨p, 0, none⟩ (.string (B r))).setCell ⟨p, 1, none⟩ (.int .i64 ((0 : Nat) : Int)))) := Lib.hid ⟨r, 0, RC.set (w := w.drewN n1) HC.out, by omega, rfl, rfl⟩
      rw [show tkRes (Sum.inl (a, r)) = _ from tkRes_ok a r]
      go_wp2
      go_ret
      exact ⟨⟨a, rfl, (fun _ _ e => by cases e; rfl), (fun _ e => by cases e)⟩, HF.out, grown_two (grown_quiet ⟨n1, rfl⟩) _ _⟩
    · have hpos := K.num_errs left e HR.out
      have HF : Hid (RM p (.inr e) (((w.drewN n1).setCell ⟨p, 0, none⟩ (.string (B []))).setCell ⟨p, 1, none⟩ (.int .i64 (e : Int)))) := Lib.hid ⟨[], e, RC.set (w := w.drewN n1) HC.out, by simp, rfl, hpos⟩
      rw [show tkRes (Sum.inr e) = _ from tkRes_bad e]
      go_wp2
      go_ret
      exact ⟨⟨0, rfl, (fun _ _ e => by cases e), fun _ _ => rfl⟩, HF.out, grown_two (grown_quiet ⟨n1, rfl⟩) _ _⟩
end Go.Proofs.YtljcgpdjhjkciaaGreat
namespace Go.Proofs.YtljcgpdjhjkciaaGreat
open Go.RowKit
attribute [local go_sem] ext_Bd ext_Bl ext_Bt toList_B add_B size_B get_Bt

theorem grown_box {w w' : World} {row : Option Nat} {b : Nat} (h : w.grownBy w' row) (hb : w.heap.size ≤ b) (j : Nat) (u : Value) : w.grownBy (w'.setCell ⟨b, j, none⟩ u) row :=
  ⟨h.os, h.tape, h.output, by have := h.size; simp [World.setCell]; exact this, fun k hk hn => (Below.heap_setCell _ _ _ _ (fun e => by simp at e; omega)).trans (h.block k hk hn)⟩
theorem set_other {w : World} {b k : Nat} {o : Obj} (h : w.heap[k]? = some o) (hne : k ≠ b) (j : Nat) (u : Value) : (w.setCell ⟨b, j, none⟩ u).heap[k]? = some o := (Below.heap_setCell _ _ _ _ (fun e => hne (by simp [e]))).trans h
theorem RC.other {p b : Nat} {left : List UInt8} {err : Nat} {w : World} (h : RC p left err w) (hne : p ≠ b) (j : Nat) (u : Value) : RC p left err (w.setCell ⟨b, j, none⟩ u) := set_other h hne j u
theorem own_other {w : World} {b base : Nat} {t t2 : TypeId} {size n : Nat} {v : Value} {xs : List Value} {cs : Array Value} (h : w.ownsRow base t size v n xs) (hb : w.heap[b]? = some (.cells cs t2 (0, 0))) (ht : t ≠ t2) (j : Nat) (u : Value) : (w.setCell ⟨b, j, none⟩ u).ownsRow base t size v n xs := by
  refine h.kept (Lib.grownBy_setCell w b j u) ?_
  rcases h.2 with ⟨rfl, _⟩ | ⟨g, cap, cur, rfl, _, hg, _⟩
  · exact .inl rfl
  · refine .inr fun e => ?_
    cases e
    rw [hb] at hg
    cases hg
    exact ht rfl
theorem RC.low {p : Nat} {left : List UInt8} {err : Nat} {w w' : World} (h : RC p left err w) (hb : Below w.heap.size w w') : RC p left err w' := (hb.block p (Array.getElem?_eq_some_iff.1 h).1).trans h
theorem two_new (w : World) (A R : Obj) : ((w.alloc A).alloc R).heap[w.heap.size]? = some A ∧ ((w.alloc A).alloc R).heap[w.heap.size + 1]? = some R ∧ Below w.heap.size w ((w.alloc A).alloc R) := by
  refine ⟨new_at2 rfl, new_at (by simp), ((Below.refl _ w).alloc (Nat.le_refl _) A).alloc (by simp) R⟩

theorem rm_number0 {p : Nat} {o : Rs} {w : World} (h : RM p o w) (res : K.Rd Nat) (H : Hid (run N.takeL o = res)) :
    Calls Tryz.prog 48 #[rdP p] w fun x w' => (∃ n : Nat, x = .returned (.int .i64 (n : Int)) ∧ (∀ a r, res = Sum.inl (a, r) → n = a) ∧ (∀ e, res = Sum.inr e → n = 0)) ∧ RM p (rest res) w' ∧ w.grownBy w' (some p) := by
  have HH := Lib.hid (rm_int h res H)
  clear h H
  go_enter Tryz.func48, Tryz.ntmps48
  go_wp2_with fail
  refine HH.out.mono ?_
  rintro x w1 ⟨⟨n, rfl, h1, h2⟩, h3, h4⟩
  go_wp2
  go_ret
  exact ⟨⟨n, rfl, h1, h2⟩, h3, h4⟩
theorem run_takeI (o : Rs) : run M.takeI o = K.bind (run N.takeL o) fun n r => Sum.inl ((n : Int), r) := by
  cases o <;> rfl
/-- A number, as the document's parts have it. -/
theorem rm_number {p : Nat} {o : Rs} {w : World} (h : RM p o w) (res : K.Rd Int) (H : Hid (run M.takeI o = res)) :
    Calls Tryz.prog 48 #[rdP p] w fun x w' => (∃ z : Int, x = .returned (.int .i64 z) ∧ (∀ a r, res = Sum.inl (a, r) → z = a)) ∧ RM p (rest res) w' ∧ w.grownBy w' (some p) := by
  refine (rm_number0 h _ (Lib.hid rfl)).mono ?_
  rintro x w1 ⟨⟨n, rfl, h1, h2⟩, h3, h4⟩
  have e := H.out
  rw [run_takeI] at e
  rcases hr : run N.takeL o with ⟨a, r⟩ | c
  · rw [hr] at e h1 h3
    have e2 : res = Sum.inl ((a : Int), r) := e.symm
    subst e2
    exact ⟨⟨n, rfl, (fun a2 r2 e3 => by cases e3; rw [h1 a r rfl])⟩, h3, h4⟩
  · rw [hr] at e h3
    have e2 : res = Sum.inr c := e.symm
    subst e2
    exact ⟨⟨n, rfl, (fun a2 r2 e3 => by cases e3)⟩, h3, h4⟩
theorem bind_run {α β : Type} (t : List UInt8 → K.Rd α) (f : α → List UInt8 → K.Rd β) (o : Rs) : run (fun l => K.bind (t l) f) o = K.bind (run t o) f := by cases o <;> rfl
set_option maxHeartbeats 1000000 in
set_option maxRecDepth 100000 in
theorem rm_mark {p : Nat} {o : Rs} {w : World} (h : RM p o w) (res : K.Rd R.Mk) (H : Hid (run M.takeMk o = res)) :
    Calls Tryz.prog 51 #[rdP p] w fun x w' => (∃ z : R.Mk, x = .returned (.agg #[.int .i64 z.1, .int .i64 z.2]) ∧ (∀ a r, res = Sum.inl (a, r) → z = a)) ∧ RM p (rest res) w' ∧ w.grownBy w' (some p) := by
  obtain ⟨res1, H1⟩ : ∃ x, Hid (run M.takeI o = x) := ⟨_, Lib.hid rfl⟩
  obtain ⟨res2, H2⟩ : ∃ x, Hid (run M.takeI (rest res1) = x) := ⟨_, Lib.hid rfl⟩
  have HE : Hid (rest res = rest res2 ∧ ∀ a r, res = Sum.inl (a, r) → (∃ r1, res1 = Sum.inl (a.1, r1)) ∧ res2 = Sum.inl (a.2, r)) := Lib.hid (by
    have e := H.out
    unfold M.takeMk at e
    rw [bind_run, H1.out] at e
    rcases res1 with ⟨a1, r1⟩ | c
    · have e2 : M.takeI r1 = res2 := H2.out
      have e3 : K.bind (M.takeI r1) (fun b q => Sum.inl ((a1, b), q)) = res := e
      rw [e2] at e3
      rcases res2 with ⟨a2, r2⟩ | c2
      · have e4 : Sum.inl ((a1, a2), r2) = res := e3
        subst e4
        exact ⟨rfl, fun a r e5 => by cases e5; exact ⟨⟨r1, rfl⟩, rfl⟩⟩
      · have e4 : Sum.inr c2 = res := e3
        subst e4
        exact ⟨rfl, fun a r e5 => by cases e5⟩
    · have e2 : (Sum.inr c : K.Rd Int) = res2 := H2.out
      have e3 : Sum.inr c = res := e
      subst e2 e3
      exact ⟨rfl, fun a r e5 => by cases e5⟩)
  have HA0 : Hid ((w.alloc (.cells #[.int .i64 0, .int .i64 0] 87)).heap[w.heap.size]? = some (.cells #[.int .i64 0, .int .i64 0] 87 (0, 0))) := Lib.hid (new_at rfl)
  have HW := Lib.hid (h.new (.cells #[.int .i64 0, .int .i64 0] 87))
  have hlt := h.lt
  clear h H
  go_enter Tryz.func51, Tryz.ntmps51
  go_wp2_with fail
  refine (rm_number HW.out res1 H1).mono ?_
  rintro x w1 ⟨⟨z1, rfl, hz1⟩, h1, hg1⟩
  have HZ1 := Lib.hid hz1
  have HM1 := Lib.hid h1
  have HG1 := Lib.hid hg1
  clear hz1 h1 hg1
  go_wp2_with fail
  refine (rm_number HM1.out res2 H2).mono ?_
  rintro x w2 ⟨⟨z2, rfl, hz2⟩, h1, hg1⟩
  have HZ2 := Lib.hid hz2
  have HM2 := Lib.hid h1
  have HG2 := Lib.hid (HG1.out.trans hg1)
  have HA := Lib.hid (block_kept HA0.out HG2.out (by omega))
  have HGW : Hid (w.grownBy w2 (some p)) := Lib.hid ((World.grownBy_alloc w _ _).trans HG2.out)
  clear hz2 h1 hg1 HG1 HM1 HW HA0
  have a0 := block_cell HA.out 0
  have a1 := block_cell HA.out 1
  simp at a0 a1
  have l0 := block_loose HA.out 0
  have l1 := block_loose HA.out 1
  go_wp2
  have HK := Lib.hid (set_two (a := .int .i64 z1) (b := .int .i64 z2) HA.out)
  have HF := Lib.hid (HM2.out.kept (Lib.grownBy_setCell w2 w.heap.size 0 (.int .i64 z1)) (by simp; omega))
  have HF2 := Lib.hid (HF.out.kept (Lib.grownBy_setCell _ w.heap.size 1 (.int .i64 z2)) (by simp; omega))
  have HG := Lib.hid (grown_box (grown_box HGW.out (Nat.le_refl _) 0 (.int .i64 z1)) (Nat.le_refl _) 1 (.int .i64 z2))
  generalize (w2.setCell ⟨w.heap.size, 0, none⟩ (.int .i64 z1)).setCell ⟨w.heap.size, 1, none⟩ (.int .i64 z2) = w9 at HK HF2 HG ⊢
  obtain ⟨k0, k1⟩ := HK.out
  exact bodyPost_ret (v := .agg #[.int .i64 z1, .int .i64 z2]) (by simp [results, Tryz.results51, go_sem, k0, k1]) rfl ⟨⟨(z1, z2), rfl, (fun a r e => by
    obtain ⟨⟨r1, e1⟩, e2⟩ := HE.out.2 a r e
    have h1 := HZ1.out _ _ e1
    have h2 := HZ2.out _ _ e2
    exact Prod.ext h1 h2)⟩, by rw [HE.out.1]; exact HF2.out, HG.out⟩
set_option maxHeartbeats 1000000 in
set_option maxRecDepth 100000 in
theorem takeStream_l (l : List UInt8) (w : World) (hl : l.length ≤ 1000000) :
    Calls Tryz.prog 57 #[.string (B l)] w fun e w' => e = .returned (ttRes (N.takeT l ((200 : Nat) : Int))) ∧ sQuiet w w' := by
  obtain ⟨res, HR⟩ : ∃ res, Hid (N.takeT l ((200 : Nat) : Int) = res) := ⟨_, Lib.hid rfl⟩
  rw [HR.out]
  go_enter Tryz.func57, Tryz.ntmps57
  go_wp2_with fail
  refine (TakeText_l l 200 w (by omega)).mono ?_
  rintro x w1 ⟨rfl, hq⟩
  rw [show N.takeT l 200 = res from HR.out]
  rcases res with ⟨a, r⟩ | e
  · rw [show ttRes (Sum.inl (a, r)) = _ from ttRes_ok a r]
    go_wp2
    go_ret3
    exact ⟨rfl, hq⟩
  · rw [show ttRes (Sum.inr e) = _ from ttRes_bad e]
    go_wp2
    go_ret3
    exact ⟨rfl, hq⟩
set_option maxHeartbeats 1000000 in
set_option maxRecDepth 100000 in
theorem rm_text {p : Nat} {o : Rs} {w : World} (h : RM p o w) (res : K.Rd (List UInt8)) (H : Hid (run (fun l => N.takeT l ((200 : Nat) : Int)) o = res)) :
    Calls Tryz.prog 56 #[rdP p, .func (.func 57) #[] #[]] w fun x w' => (∃ n : List UInt8, x = .returned (.string (B n)) ∧ (∀ a r, res = Sum.inl (a, r) → n = a)) ∧ RM p (rest res) w' ∧ w.grownBy w' (some p) := by
  obtain ⟨left, err, hc, hl, ho⟩ := h
  have HC := Lib.hid hc
  obtain ⟨c0, c1, l0, l1⟩ := hc.cells
  match o, ho with
  | .inr e, ho =>
    obtain ⟨rfl, he⟩ := ho
    have hres := H.out
    obtain rfl : res = Sum.inr err := hres.symm
    obtain ⟨h1, h2⟩ := err_bd he
    have HF : Hid (RM p (rest (Sum.inr err : K.Rd (List UInt8))) w) := Lib.hid ⟨left, err, hc, hl, rfl, he⟩
    clear hc H hres
    go_enter Tryz.func56, Tryz.ntmps56
    go_wp2
    go_ret
    exact ⟨⟨[], rfl, (fun a r e => by cases e)⟩, HF.out, grown_refl _ _⟩
  | .inl l, ho =>
    obtain ⟨rfl, rfl⟩ := ho
    have hres : N.takeT left ((200 : Nat) : Int) = res := H.out
    have HR := Lib.hid hres
    clear hc H hres
    go_enter Tryz.func56, Tryz.ntmps56
    go_wp2_with fail
    refine (takeStream_l left w (by omega)).mono ?_
    rintro x w1 ⟨rfl, n1, rfl⟩
    rw [HR.out]
    rcases res with ⟨a, r⟩ | e
    · have hrl := takeT_len HR.out
      have HF : Hid (RM p (.inl r) (((w.drewN n1).setCell ⟨p, 0, none⟩ (.string (B r))).setCell ⟨p, 1, none⟩ (.int .i64 ((0 : Nat) : Int)))) := Lib.hid ⟨r, 0, RC.set (w := w.drewN n1) HC.out, by omega, rfl, rfl⟩
      rw [show ttRes (Sum.inl (a, r)) = _ from ttRes_ok a r]
      go_wp2
      go_ret
      exact ⟨⟨a, rfl, (fun _ _ e => by cases e; rfl)⟩, HF.out, grown_two (grown_quiet ⟨n1, rfl⟩) _ _⟩
    · have hpos := K.txt_errs _ _ e HR.out
      have HF : Hid (RM p (.inr e) (((w.drewN n1).setCell ⟨p, 0, none⟩ (.string (B []))).setCell ⟨p, 1, none⟩ (.int .i64 (e : Int)))) := Lib.hid ⟨[], e, RC.set (w := w.drewN n1) HC.out, by simp, rfl, hpos⟩
      rw [show ttRes (Sum.inr e) = _ from ttRes_bad e]
      go_wp2
      go_ret
      exact ⟨⟨[], rfl, (fun _ _ e => by cases e)⟩, HF.out, grown_two (grown_quiet ⟨n1, rfl⟩) _ _⟩

set_option maxHeartbeats 4000000 in
set_option maxRecDepth 100000 in
theorem rm_event_err {p : Nat} {w : World} {left : List UInt8} {err : Nat} (hc : RC p left err w) (hl : left.length ≤ 1000000) (hpos : 0 < err) (res : K.Rd E.Ev) (hres : res = Sum.inr err) :
    Calls Tryz.prog 83 #[rdP p, .func (.func 84) #[] #[]] w fun x w' => (∃ z : E.Ev, x = .returned (evV z) ∧ (∀ a r, res = Sum.inl (a, r) → z = a)) ∧ RM p (rest res) w' ∧ w.grownBy w' (some p) := by
  obtain ⟨hA4, hA5, hB⟩ := two_new w (.cells #[.string ⟨#[]⟩, .string ⟨#[]⟩] 55) (.cells #[.string ⟨#[]⟩, .string ⟨#[]⟩] 55)
  have hplt : p < w.heap.size := (Array.getElem?_eq_some_iff.1 hc).1
  have hc2 := hc.low hB
  have HC := Lib.hid hc2
  obtain ⟨c0, c1, l0, l1⟩ := hc2.cells
  subst hres
  obtain ⟨h1, h2⟩ := err_bd hpos
  have hrlen := hl
  obtain ⟨W9, HW9⟩ : ∃ W9, Hid ((w.alloc (.cells #[.string ⟨#[]⟩, .string ⟨#[]⟩] 55)).alloc (.cells #[.string ⟨#[]⟩, .string ⟨#[]⟩] 55) = W9) := ⟨_, Lib.hid rfl⟩
  have HA4 : Hid (W9.heap[w.heap.size]? = some (.cells #[.string ⟨#[]⟩, .string ⟨#[]⟩] 55 (0, 0))) := Lib.hid (by rw [← HW9.out]; exact hA4)
  have HA5 : Hid (W9.heap[w.heap.size + 1]? = some (.cells #[.string ⟨#[]⟩, .string ⟨#[]⟩] 55 (0, 0))) := Lib.hid (by rw [← HW9.out]; exact hA5)
  have HRC : Hid (RC p left err W9) := Lib.hid (by rw [← HW9.out]; exact HC.out)
  have HG : Hid (w.grownBy W9 (some p)) := Lib.hid (by rw [← HW9.out]; exact grown_below hB)
  clear hc hA4 hA5 hB hc2 HC
  go_enter Tryz.func83, Tryz.ntmps83
  go_upto_region 4 with (fail)
  rw [HW9.out]
  clear HW9 c0 c1 l0 l1
  have x0 := block_cell HA5.out 0
  have x1 := block_cell HA5.out 1
  simp at x0 x1
  have y0 := block_cell HA4.out 0
  have y1 := block_cell HA4.out 1
  simp at y0 y1
  have m0 := block_loose HA4.out 0
  have m1 := block_loose HA4.out 1
  go_wp2
  have HK : Hid ((((W9.setCell ⟨w.heap.size, 0, none⟩ (.string ⟨#[]⟩)).setCell ⟨w.heap.size, 1, none⟩ (.string ⟨#[]⟩))).heap[w.heap.size]? = some (.cells #[.string ⟨#[]⟩, .string ⟨#[]⟩] 55 (0, 0))) := Lib.hid (set_block (set_block (HA4.out) 0 (.string ⟨#[]⟩)) 1 (.string ⟨#[]⟩))
  have HF : Hid (RM p (.inr err) (((W9.setCell ⟨w.heap.size, 0, none⟩ (.string ⟨#[]⟩)).setCell ⟨w.heap.size, 1, none⟩ (.string ⟨#[]⟩)))) := Lib.hid ⟨left, err, by exact ((HRC.out.other (by omega) 0 _).other (by omega) 1 _), by first | exact hrlen | simp | omega, by first | exact ⟨rfl, rfl⟩ | exact ⟨rfl, hpos⟩⟩
  have HGF : Hid (w.grownBy (((W9.setCell ⟨w.heap.size, 0, none⟩ (.string ⟨#[]⟩)).setCell ⟨w.heap.size, 1, none⟩ (.string ⟨#[]⟩))) (some p)) := Lib.hid (grown_box (grown_box (HG.out) (Nat.le_refl _) 0 _) (Nat.le_refl _) 1 _)
  generalize ((W9.setCell ⟨w.heap.size, 0, none⟩ (.string ⟨#[]⟩)).setCell ⟨w.heap.size, 1, none⟩ (.string ⟨#[]⟩)) = w9 at HK HF HGF ⊢
  have k0 := block_cell HK.out 0
  have k1 := block_cell HK.out 1
  simp at k0 k1
  exact bodyPost_ret (v := .agg #[.string ⟨#[]⟩, .string ⟨#[]⟩]) (by simp [results, Tryz.results83, go_sem, k0, k1]) rfl ⟨⟨([], []), rfl, (fun a r e => by cases e)⟩, HF.out, HGF.out⟩

set_option maxHeartbeats 4000000 in
set_option maxRecDepth 100000 in
theorem rm_event_ok {p : Nat} {w : World} {left : List UInt8} {err : Nat} (hc : RC p left err w) (hl : left.length ≤ 1000000) (herr : err = 0) (a : E.Ev) (r : List UInt8) (HR : Hid (E.takeEv left = Sum.inl (a, r))) (res : K.Rd E.Ev) (hres : res = Sum.inl (a, r)) :
    Calls Tryz.prog 83 #[rdP p, .func (.func 84) #[] #[]] w fun x w' => (∃ z : E.Ev, x = .returned (evV z) ∧ (∀ a r, res = Sum.inl (a, r) → z = a)) ∧ RM p (rest res) w' ∧ w.grownBy w' (some p) := by
  obtain ⟨hA4, hA5, hB⟩ := two_new w (.cells #[.string ⟨#[]⟩, .string ⟨#[]⟩] 55) (.cells #[.string ⟨#[]⟩, .string ⟨#[]⟩] 55)
  have hplt : p < w.heap.size := (Array.getElem?_eq_some_iff.1 hc).1
  have hc2 := hc.low hB
  have HC := Lib.hid hc2
  obtain ⟨c0, c1, l0, l1⟩ := hc2.cells
  subst hres herr
  have HA4a := Lib.hid hA4
  have HA5a := Lib.hid hA5
  have HBB := Lib.hid hB
  clear hc hA4 hA5 hB hc2
  have HQ : Hid (evRes (E.takeEv left) = (a, r, 0)) := Lib.hid (by rw [HR.out]; rfl)
  go_enter Tryz.func83, Tryz.ntmps83
  go_wp2_with fail
  refine (ETake_at left a r 0 _ (by omega) HQ).mono ?_
  rintro x w1 ⟨rfl, hb1⟩
  have HC1 := Lib.hid (HC.out.low hb1)
  have HA41 := Lib.hid (block_below HA4a.out hb1)
  have HA51 := Lib.hid (block_below HA5a.out hb1)
  have HG1 := Lib.hid ((grown_below HBB.out).trans (grown_below (row := some p) hb1))
  have hrlen : r.length ≤ 1000000 := by have := congrArg List.length (E.evC.inv left a r HR.out).1; rw [List.length_append] at this; omega
  clear hb1 HC HA4a HA5a HBB c0 c1 l0 l1
  obtain ⟨c0, c1, l0, l1⟩ := HC1.out.cells
  have b0 := block_cell HA51.out 0
  have b1 := block_cell HA51.out 1
  simp at b0 b1
  have f0 := block_loose HA51.out 0
  have f1 := block_loose HA51.out 1
  go_upto_region 4 with (fail)
  have HA5 : Hid (((((w1.setCell ⟨w.heap.size + 1, 0, none⟩ (.string (B a.1))).setCell ⟨w.heap.size + 1, 1, none⟩ (.string (B a.2))).setCell ⟨p, 0, none⟩ (.string (B r))).setCell ⟨p, 1, none⟩ (.int .i64 ((0 : Nat) : Int))).heap[w.heap.size + 1]? = some (.cells #[.string (B a.1), .string (B a.2)] 55 (0, 0))) := Lib.hid (set_other (set_other (set_block (set_block (HA51.out) 0 (.string (B a.1))) 1 (.string (B a.2))) (by omega) 0 _) (by omega) 1 _)
  have HA4 : Hid (((((w1.setCell ⟨w.heap.size + 1, 0, none⟩ (.string (B a.1))).setCell ⟨w.heap.size + 1, 1, none⟩ (.string (B a.2))).setCell ⟨p, 0, none⟩ (.string (B r))).setCell ⟨p, 1, none⟩ (.int .i64 ((0 : Nat) : Int))).heap[w.heap.size]? = some (.cells #[.string ⟨#[]⟩, .string ⟨#[]⟩] 55 (0, 0))) := Lib.hid (set_other (set_other (set_other (set_other HA41.out (by omega) 0 _) (by omega) 1 _) (by omega) 0 _) (by omega) 1 _)
  have HRC : Hid (RC p r 0 ((((w1.setCell ⟨w.heap.size + 1, 0, none⟩ (.string (B a.1))).setCell ⟨w.heap.size + 1, 1, none⟩ (.string (B a.2))).setCell ⟨p, 0, none⟩ (.string (B r))).setCell ⟨p, 1, none⟩ (.int .i64 ((0 : Nat) : Int)))) := Lib.hid (RC.set ((HC1.out.other (by omega) 0 _).other (by omega) 1 _))
  have HG : Hid (w.grownBy ((((w1.setCell ⟨w.heap.size + 1, 0, none⟩ (.string (B a.1))).setCell ⟨w.heap.size + 1, 1, none⟩ (.string (B a.2))).setCell ⟨p, 0, none⟩ (.string (B r))).setCell ⟨p, 1, none⟩ (.int .i64 ((0 : Nat) : Int))) (some p)) := Lib.hid (grown_two (grown_box (grown_box (HG1.out) (by omega) 0 _) (by omega) 1 _) _ _)
  generalize ((((w1.setCell ⟨w.heap.size + 1, 0, none⟩ (.string (B a.1))).setCell ⟨w.heap.size + 1, 1, none⟩ (.string (B a.2))).setCell ⟨p, 0, none⟩ (.string (B r))).setCell ⟨p, 1, none⟩ (.int .i64 ((0 : Nat) : Int))) = W9 at HA5 HA4 HRC HG ⊢
  clear HC1 HA41 HA51 HG1 c0 c1 l0 l1 b0 f0 b1 f1
  have x0 := block_cell HA5.out 0
  have x1 := block_cell HA5.out 1
  simp at x0 x1
  have y0 := block_cell HA4.out 0
  have y1 := block_cell HA4.out 1
  simp at y0 y1
  have m0 := block_loose HA4.out 0
  have m1 := block_loose HA4.out 1
  go_wp2
  have HK : Hid ((((W9.setCell ⟨w.heap.size, 0, none⟩ (.string (B a.1))).setCell ⟨w.heap.size, 1, none⟩ (.string (B a.2)))).heap[w.heap.size]? = some (.cells #[.string (B a.1), .string (B a.2)] 55 (0, 0))) := Lib.hid (set_block (set_block (HA4.out) 0 (.string (B a.1))) 1 (.string (B a.2)))
  have HF : Hid (RM p (.inl r) (((W9.setCell ⟨w.heap.size, 0, none⟩ (.string (B a.1))).setCell ⟨w.heap.size, 1, none⟩ (.string (B a.2))))) := Lib.hid ⟨r, 0, by exact ((HRC.out.other (by omega) 0 _).other (by omega) 1 _), by first | exact hrlen | simp | omega, by first | exact ⟨rfl, rfl⟩ | exact ⟨rfl, hpos⟩⟩
  have HGF : Hid (w.grownBy (((W9.setCell ⟨w.heap.size, 0, none⟩ (.string (B a.1))).setCell ⟨w.heap.size, 1, none⟩ (.string (B a.2)))) (some p)) := Lib.hid (grown_box (grown_box (HG.out) (Nat.le_refl _) 0 _) (Nat.le_refl _) 1 _)
  generalize ((W9.setCell ⟨w.heap.size, 0, none⟩ (.string (B a.1))).setCell ⟨w.heap.size, 1, none⟩ (.string (B a.2))) = w9 at HK HF HGF ⊢
  have k0 := block_cell HK.out 0
  have k1 := block_cell HK.out 1
  simp at k0 k1
  exact bodyPost_ret (v := .agg #[.string (B a.1), .string (B a.2)]) (by simp [results, Tryz.results83, go_sem, k0, k1]) rfl ⟨⟨a, rfl, (fun _ _ e => by cases e; rfl)⟩, HF.out, HGF.out⟩

set_option maxHeartbeats 4000000 in
set_option maxRecDepth 100000 in
theorem rm_event_bad {p : Nat} {w : World} {left : List UInt8} {err : Nat} (hc : RC p left err w) (hl : left.length ≤ 1000000) (herr : err = 0) (e : Nat) (HR : Hid (E.takeEv left = Sum.inr e)) (res : K.Rd E.Ev) (hres : res = Sum.inr e) :
    Calls Tryz.prog 83 #[rdP p, .func (.func 84) #[] #[]] w fun x w' => (∃ z : E.Ev, x = .returned (evV z) ∧ (∀ a r, res = Sum.inl (a, r) → z = a)) ∧ RM p (rest res) w' ∧ w.grownBy w' (some p) := by
  obtain ⟨hA4, hA5, hB⟩ := two_new w (.cells #[.string ⟨#[]⟩, .string ⟨#[]⟩] 55) (.cells #[.string ⟨#[]⟩, .string ⟨#[]⟩] 55)
  have hplt : p < w.heap.size := (Array.getElem?_eq_some_iff.1 hc).1
  have hc2 := hc.low hB
  have HC := Lib.hid hc2
  obtain ⟨c0, c1, l0, l1⟩ := hc2.cells
  subst hres herr
  have HA4a := Lib.hid hA4
  have HA5a := Lib.hid hA5
  have HBB := Lib.hid hB
  clear hc hA4 hA5 hB hc2
  have hpos := E.ev_errs left e HR.out
  have HQ : Hid (evRes (E.takeEv left) = (([], []), [], e)) := Lib.hid (by rw [HR.out]; rfl)
  go_enter Tryz.func83, Tryz.ntmps83
  go_wp2_with fail
  refine (ETake_at left ([], []) [] e _ (by omega) HQ).mono ?_
  rintro x w1 ⟨rfl, hb1⟩
  have HC1 := Lib.hid (HC.out.low hb1)
  have HA41 := Lib.hid (block_below HA4a.out hb1)
  have HA51 := Lib.hid (block_below HA5a.out hb1)
  have HG1 := Lib.hid ((grown_below HBB.out).trans (grown_below (row := some p) hb1))
  have hrlen : ([] : List UInt8).length ≤ 1000000 := by simp
  clear hb1 HC HA4a HA5a HBB c0 c1 l0 l1
  obtain ⟨c0, c1, l0, l1⟩ := HC1.out.cells
  have b0 := block_cell HA51.out 0
  have b1 := block_cell HA51.out 1
  simp at b0 b1
  have f0 := block_loose HA51.out 0
  have f1 := block_loose HA51.out 1
  go_upto_region 4 with (fail)
  have HA5 : Hid (((((w1.setCell ⟨w.heap.size + 1, 0, none⟩ (.string (B []))).setCell ⟨w.heap.size + 1, 1, none⟩ (.string (B []))).setCell ⟨p, 0, none⟩ (.string (B []))).setCell ⟨p, 1, none⟩ (.int .i64 (e : Int))).heap[w.heap.size + 1]? = some (.cells #[.string (B []), .string (B [])] 55 (0, 0))) := Lib.hid (set_other (set_other (set_block (set_block (HA51.out) 0 (.string (B []))) 1 (.string (B []))) (by omega) 0 _) (by omega) 1 _)
  have HA4 : Hid (((((w1.setCell ⟨w.heap.size + 1, 0, none⟩ (.string (B []))).setCell ⟨w.heap.size + 1, 1, none⟩ (.string (B []))).setCell ⟨p, 0, none⟩ (.string (B []))).setCell ⟨p, 1, none⟩ (.int .i64 (e : Int))).heap[w.heap.size]? = some (.cells #[.string ⟨#[]⟩, .string ⟨#[]⟩] 55 (0, 0))) := Lib.hid (set_other (set_other (set_other (set_other HA41.out (by omega) 0 _) (by omega) 1 _) (by omega) 0 _) (by omega) 1 _)
  have HRC : Hid (RC p [] e ((((w1.setCell ⟨w.heap.size + 1, 0, none⟩ (.string (B []))).setCell ⟨w.heap.size + 1, 1, none⟩ (.string (B []))).setCell ⟨p, 0, none⟩ (.string (B []))).setCell ⟨p, 1, none⟩ (.int .i64 (e : Int)))) := Lib.hid (RC.set ((HC1.out.other (by omega) 0 _).other (by omega) 1 _))
  have HG : Hid (w.grownBy ((((w1.setCell ⟨w.heap.size + 1, 0, none⟩ (.string (B []))).setCell ⟨w.heap.size + 1, 1, none⟩ (.string (B []))).setCell ⟨p, 0, none⟩ (.string (B []))).setCell ⟨p, 1, none⟩ (.int .i64 (e : Int))) (some p)) := Lib.hid (grown_two (grown_box (grown_box (HG1.out) (by omega) 0 _) (by omega) 1 _) _ _)
  generalize ((((w1.setCell ⟨w.heap.size + 1, 0, none⟩ (.string (B []))).setCell ⟨w.heap.size + 1, 1, none⟩ (.string (B []))).setCell ⟨p, 0, none⟩ (.string (B []))).setCell ⟨p, 1, none⟩ (.int .i64 (e : Int))) = W9 at HA5 HA4 HRC HG ⊢
  clear HC1 HA41 HA51 HG1 c0 c1 l0 l1 b0 f0 b1 f1
  have x0 := block_cell HA5.out 0
  have x1 := block_cell HA5.out 1
  simp at x0 x1
  have y0 := block_cell HA4.out 0
  have y1 := block_cell HA4.out 1
  simp at y0 y1
  have m0 := block_loose HA4.out 0
  have m1 := block_loose HA4.out 1
  go_wp2
  have HK : Hid ((((W9.setCell ⟨w.heap.size, 0, none⟩ (.string (B []))).setCell ⟨w.heap.size, 1, none⟩ (.string (B [])))).heap[w.heap.size]? = some (.cells #[.string (B []), .string (B [])] 55 (0, 0))) := Lib.hid (set_block (set_block (HA4.out) 0 (.string (B []))) 1 (.string (B [])))
  have HF : Hid (RM p (.inr e) (((W9.setCell ⟨w.heap.size, 0, none⟩ (.string (B []))).setCell ⟨w.heap.size, 1, none⟩ (.string (B []))))) := Lib.hid ⟨[], e, by exact ((HRC.out.other (by omega) 0 _).other (by omega) 1 _), by first | exact hrlen | simp | omega, by first | exact ⟨rfl, rfl⟩ | exact ⟨rfl, hpos⟩⟩
  have HGF : Hid (w.grownBy (((W9.setCell ⟨w.heap.size, 0, none⟩ (.string (B []))).setCell ⟨w.heap.size, 1, none⟩ (.string (B [])))) (some p)) := Lib.hid (grown_box (grown_box (HG.out) (Nat.le_refl _) 0 _) (Nat.le_refl _) 1 _)
  generalize ((W9.setCell ⟨w.heap.size, 0, none⟩ (.string (B []))).setCell ⟨w.heap.size, 1, none⟩ (.string (B []))) = w9 at HK HF HGF ⊢
  have k0 := block_cell HK.out 0
  have k1 := block_cell HK.out 1
  simp at k0 k1
  exact bodyPost_ret (v := .agg #[.string (B []), .string (B [])]) (by simp [results, Tryz.results83, go_sem, k0, k1]) rfl ⟨⟨([], []), rfl, (fun a r e => by cases e)⟩, HF.out, HGF.out⟩
theorem rm_event0 {p : Nat} {o : Rs} {w : World} (h : RM p o w) (res : K.Rd E.Ev) (H : Hid (run E.takeEv o = res)) :
    Calls Tryz.prog 83 #[rdP p, .func (.func 84) #[] #[]] w fun x w' => (∃ z : E.Ev, x = .returned (evV z) ∧ (∀ a r, res = Sum.inl (a, r) → z = a)) ∧ RM p (rest res) w' ∧ w.grownBy w' (some p) := by
  obtain ⟨left, err, hc, hl, ho⟩ := h
  match o, ho with
  | .inr e, ho => exact rm_event_err hc hl (by rw [ho.1]; exact ho.2) res (by rw [ho.1]; exact H.out.symm)
  | .inl l, ho =>
    obtain ⟨h0, rfl⟩ := ho
    have hres : E.takeEv left = res := H.out
    rcases res with ⟨a, r⟩ | e
    · exact rm_event_ok hc hl h0 a r (Lib.hid hres) _ rfl
    · exact rm_event_bad hc hl h0 e (Lib.hid hres) _ rfl
theorem fits_small {b : E.Bat} (hf : E.fits b = 0) : E.Small b := by
  obtain ⟨⟨hst, _⟩, _, hall⟩ := E.fits_inv hf
  have := (nameL_len hst).2
  refine E.Small.of (by omega) fun e he => ?_
  have := E.right_bd (List.all_eq_true.1 hall e he)
  omega
theorem right_small {e : R.En} (h : R.right e = true) : E.Small e.b := fits_small (R.right_iff.1 h).2.2.2.2
end Go.Proofs.YtljcgpdjhjkciaaGreat
namespace Go.Proofs.YtljcgpdjhjkciaaGreat
open Go.RowKit
attribute [local go_sem] ext_Bd ext_Bl ext_Bt toList_B add_B size_B get_Bt

set_option maxHeartbeats 4000000 in
set_option maxRecDepth 100000 in
theorem rm_batch_err {p : Nat} {w : World} {left : List UInt8} {err : Nat} (hc : RC p left err w) (hl : left.length ≤ 1000000) (hpos : 0 < err) (res : K.Rd E.Bat) (hres : res = Sum.inr err) :
    Calls Tryz.prog 54 #[rdP p, .func (.func 55) #[] #[]] w fun x w' => (∃ (z : E.Bat) (v : Value), x = .returned (batV z v) ∧ (∃ a n c, v = .slice a n c) ∧ (∀ a r, res = Sum.inl (a, r) → z = a ∧ w'.ownsRow w.heap.size 55 2 v z.events.length (evCells z.events))) ∧ RM p (rest res) w' ∧ w.grownBy w' (some p) := by
  obtain ⟨hA4, hA5, hB⟩ := two_new w (.cells #[.string ⟨#[]⟩, .int .i64 0, .int .i64 0, .int .i64 0, .slice none 0 0] 28) (.cells #[.string ⟨#[]⟩, .int .i64 0, .int .i64 0, .int .i64 0, .slice none 0 0] 28)
  have hplt : p < w.heap.size := (Array.getElem?_eq_some_iff.1 hc).1
  have hc2 := hc.low hB
  have HC := Lib.hid hc2
  obtain ⟨c0, c1, l0, l1⟩ := hc2.cells
  subst hres
  obtain ⟨h1, h2⟩ := err_bd hpos
  have hrlen := hl
  obtain ⟨W9, HW9⟩ : ∃ W9, Hid ((w.alloc (.cells #[.string ⟨#[]⟩, .int .i64 0, .int .i64 0, .int .i64 0, .slice none 0 0] 28)).alloc (.cells #[.string ⟨#[]⟩, .int .i64 0, .int .i64 0, .int .i64 0, .slice none 0 0] 28) = W9) := ⟨_, Lib.hid rfl⟩
  have HA4 : Hid (W9.heap[w.heap.size]? = some (.cells #[.string ⟨#[]⟩, .int .i64 0, .int .i64 0, .int .i64 0, .slice none 0 0] 28 (0, 0))) := Lib.hid (by rw [← HW9.out]; exact hA4)
  have HA5 : Hid (W9.heap[w.heap.size + 1]? = some (.cells #[.string ⟨#[]⟩, .int .i64 0, .int .i64 0, .int .i64 0, .slice none 0 0] 28 (0, 0))) := Lib.hid (by rw [← HW9.out]; exact hA5)
  have HRC : Hid (RC p left err W9) := Lib.hid (by rw [← HW9.out]; exact HC.out)
  have HG : Hid (w.grownBy W9 (some p)) := Lib.hid (by rw [← HW9.out]; exact grown_below hB)
  clear hc hA4 hA5 hB hc2 HC
  go_enter Tryz.func54, Tryz.ntmps54
  go_upto_region 4 with (fail)
  rw [HW9.out]
  clear HW9 c0 c1 l0 l1
  have x0 := block_cell HA5.out 0
  have x1 := block_cell HA5.out 1
  have x2 := block_cell HA5.out 2
  have x3 := block_cell HA5.out 3
  have x4 := block_cell HA5.out 4
  simp at x0 x1 x2 x3 x4
  have y0 := block_cell HA4.out 0
  have y1 := block_cell HA4.out 1
  have y2 := block_cell HA4.out 2
  have y3 := block_cell HA4.out 3
  have y4 := block_cell HA4.out 4
  simp at y0 y1 y2 y3 y4
  have m0 := block_loose HA4.out 0
  have m1 := block_loose HA4.out 1
  have m2 := block_loose HA4.out 2
  have m3 := block_loose HA4.out 3
  have m4 := block_loose HA4.out 4
  go_wp2
  have HK : Hid (((((((W9.setCell ⟨w.heap.size, 0, none⟩ (.string ⟨#[]⟩)).setCell ⟨w.heap.size, 1, none⟩ (.int .i64 0)).setCell ⟨w.heap.size, 2, none⟩ (.int .i64 0)).setCell ⟨w.heap.size, 3, none⟩ (.int .i64 0)).setCell ⟨w.heap.size, 4, none⟩ (.slice none 0 0))).heap[w.heap.size]? = some (.cells #[.string ⟨#[]⟩, .int .i64 0, .int .i64 0, .int .i64 0, .slice none 0 0] 28 (0, 0))) := Lib.hid (set_block (set_block (set_block (set_block (set_block (HA4.out) 0 (.string ⟨#[]⟩)) 1 (.int .i64 0)) 2 (.int .i64 0)) 3 (.int .i64 0)) 4 (.slice none 0 0))
  have HF : Hid (RM p (.inr err) ((((((W9.setCell ⟨w.heap.size, 0, none⟩ (.string ⟨#[]⟩)).setCell ⟨w.heap.size, 1, none⟩ (.int .i64 0)).setCell ⟨w.heap.size, 2, none⟩ (.int .i64 0)).setCell ⟨w.heap.size, 3, none⟩ (.int .i64 0)).setCell ⟨w.heap.size, 4, none⟩ (.slice none 0 0)))) := Lib.hid ⟨left, err, by exact (((((HRC.out.other (by omega) 0 _).other (by omega) 1 _).other (by omega) 2 _).other (by omega) 3 _).other (by omega) 4 _), by first | exact hrlen | simp | omega, by first | exact ⟨rfl, rfl⟩ | exact ⟨rfl, hpos⟩⟩
  have HGF : Hid (w.grownBy ((((((W9.setCell ⟨w.heap.size, 0, none⟩ (.string ⟨#[]⟩)).setCell ⟨w.heap.size, 1, none⟩ (.int .i64 0)).setCell ⟨w.heap.size, 2, none⟩ (.int .i64 0)).setCell ⟨w.heap.size, 3, none⟩ (.int .i64 0)).setCell ⟨w.heap.size, 4, none⟩ (.slice none 0 0))) (some p)) := Lib.hid (grown_box (grown_box (grown_box (grown_box (grown_box (HG.out) (Nat.le_refl _) 0 _) (Nat.le_refl _) 1 _) (Nat.le_refl _) 2 _) (Nat.le_refl _) 3 _) (Nat.le_refl _) 4 _)
  generalize (((((W9.setCell ⟨w.heap.size, 0, none⟩ (.string ⟨#[]⟩)).setCell ⟨w.heap.size, 1, none⟩ (.int .i64 0)).setCell ⟨w.heap.size, 2, none⟩ (.int .i64 0)).setCell ⟨w.heap.size, 3, none⟩ (.int .i64 0)).setCell ⟨w.heap.size, 4, none⟩ (.slice none 0 0)) = w9 at HK HF HGF ⊢
  have k0 := block_cell HK.out 0
  have k1 := block_cell HK.out 1
  have k2 := block_cell HK.out 2
  have k3 := block_cell HK.out 3
  have k4 := block_cell HK.out 4
  simp at k0 k1 k2 k3 k4
  exact bodyPost_ret (v := .agg #[.string ⟨#[]⟩, .int .i64 0, .int .i64 0, .int .i64 0, .slice none 0 0]) (by simp [results, Tryz.results54, go_sem, k0, k1, k2, k3, k4]) rfl ⟨⟨⟨[], 0, 0, 0, []⟩, _, rfl, ⟨_, _, _, rfl⟩, (fun a r e => by cases e)⟩, HF.out, HGF.out⟩

set_option maxHeartbeats 4000000 in
set_option maxRecDepth 100000 in
theorem rm_batch_ok {p : Nat} {w : World} {left : List UInt8} {err : Nat} (hc : RC p left err w) (hl : left.length ≤ 1000000) (herr : err = 0) (a : E.Bat) (r : List UInt8) (HR : Hid (E.takeBat left = Sum.inl (a, r))) (res : K.Rd E.Bat) (hres : res = Sum.inl (a, r)) :
    Calls Tryz.prog 54 #[rdP p, .func (.func 55) #[] #[]] w fun x w' => (∃ (z : E.Bat) (v : Value), x = .returned (batV z v) ∧ (∃ a n c, v = .slice a n c) ∧ (∀ a r, res = Sum.inl (a, r) → z = a ∧ w'.ownsRow w.heap.size 55 2 v z.events.length (evCells z.events))) ∧ RM p (rest res) w' ∧ w.grownBy w' (some p) := by
  obtain ⟨hA4, hA5, hB⟩ := two_new w (.cells #[.string ⟨#[]⟩, .int .i64 0, .int .i64 0, .int .i64 0, .slice none 0 0] 28) (.cells #[.string ⟨#[]⟩, .int .i64 0, .int .i64 0, .int .i64 0, .slice none 0 0] 28)
  have hplt : p < w.heap.size := (Array.getElem?_eq_some_iff.1 hc).1
  have hc2 := hc.low hB
  have HC := Lib.hid hc2
  obtain ⟨c0, c1, l0, l1⟩ := hc2.cells
  subst hres herr
  have HA4a := Lib.hid hA4
  have HA5a := Lib.hid hA5
  have HBB := Lib.hid hB
  clear hc hA4 hA5 hB hc2
  obtain ⟨st, ex, se, sq, evs⟩ := a
  have HQ : Hid (batRes (E.takeBat left) = (⟨st, ex, se, sq, evs⟩, r, 0)) := Lib.hid (by rw [HR.out]; rfl)
  go_enter Tryz.func54, Tryz.ntmps54
  go_wp2_with fail
  refine (ETakeBat_own left ⟨st, ex, se, sq, evs⟩ r _ (by omega) HQ).mono ?_
  rintro x w1 ⟨u, rfl, how1, hb1⟩
  have HOW1 := Lib.hid (own_base5 (b := w.heap.size) how1 (by simp only [World.size_alloc]; omega))
  obtain ⟨ua, uc, rfl, -⟩ := own_slice how1
  dsimp only [batV]
  clear how1
  have HC1 := Lib.hid (HC.out.low hb1)
  have HA41 := Lib.hid (block_below HA4a.out hb1)
  have HA51 := Lib.hid (block_below HA5a.out hb1)
  have HG1 := Lib.hid ((grown_below HBB.out).trans (grown_below (row := some p) hb1))
  have hrlen : r.length ≤ 1000000 := by have := congrArg List.length (E.batC.inv left _ r HR.out).1; rw [List.length_append] at this; omega
  clear hb1 HC HA4a HA5a HBB c0 c1 l0 l1
  obtain ⟨c0, c1, l0, l1⟩ := HC1.out.cells
  have b0 := block_cell HA51.out 0
  have b1 := block_cell HA51.out 1
  have b2 := block_cell HA51.out 2
  have b3 := block_cell HA51.out 3
  have b4 := block_cell HA51.out 4
  simp at b0 b1 b2 b3 b4
  have f0 := block_loose HA51.out 0
  have f1 := block_loose HA51.out 1
  have f2 := block_loose HA51.out 2
  have f3 := block_loose HA51.out 3
  have f4 := block_loose HA51.out 4
  go_upto_region 4 with (fail)
  have HA5 : Hid ((((((((w1.setCell ⟨w.heap.size + 1, 0, none⟩ (.string (B st))).setCell ⟨w.heap.size + 1, 1, none⟩ (.int .i64 ex)).setCell ⟨w.heap.size + 1, 2, none⟩ (.int .i64 se)).setCell ⟨w.heap.size + 1, 3, none⟩ (.int .i64 sq)).setCell ⟨w.heap.size + 1, 4, none⟩ (.slice ua evs.length uc)).setCell ⟨p, 0, none⟩ (.string (B r))).setCell ⟨p, 1, none⟩ (.int .i64 ((0 : Nat) : Int))).heap[w.heap.size + 1]? = some (.cells #[.string (B st), .int .i64 ex, .int .i64 se, .int .i64 sq, .slice ua evs.length uc] 28 (0, 0))) := Lib.hid (set_other (set_other (set_block (set_block (set_block (set_block (set_block (HA51.out) 0 (.string (B st))) 1 (.int .i64 ex)) 2 (.int .i64 se)) 3 (.int .i64 sq)) 4 (.slice ua evs.length uc)) (by omega) 0 _) (by omega) 1 _)
  have HA4 : Hid ((((((((w1.setCell ⟨w.heap.size + 1, 0, none⟩ (.string (B st))).setCell ⟨w.heap.size + 1, 1, none⟩ (.int .i64 ex)).setCell ⟨w.heap.size + 1, 2, none⟩ (.int .i64 se)).setCell ⟨w.heap.size + 1, 3, none⟩ (.int .i64 sq)).setCell ⟨w.heap.size + 1, 4, none⟩ (.slice ua evs.length uc)).setCell ⟨p, 0, none⟩ (.string (B r))).setCell ⟨p, 1, none⟩ (.int .i64 ((0 : Nat) : Int))).heap[w.heap.size]? = some (.cells #[.string ⟨#[]⟩, .int .i64 0, .int .i64 0, .int .i64 0, .slice none 0 0] 28 (0, 0))) := Lib.hid (set_other (set_other (set_other (set_other (set_other (set_other (set_other HA41.out (by omega) 0 _) (by omega) 1 _) (by omega) 2 _) (by omega) 3 _) (by omega) 4 _) (by omega) 0 _) (by omega) 1 _)
  have HRC : Hid (RC p r 0 (((((((w1.setCell ⟨w.heap.size + 1, 0, none⟩ (.string (B st))).setCell ⟨w.heap.size + 1, 1, none⟩ (.int .i64 ex)).setCell ⟨w.heap.size + 1, 2, none⟩ (.int .i64 se)).setCell ⟨w.heap.size + 1, 3, none⟩ (.int .i64 sq)).setCell ⟨w.heap.size + 1, 4, none⟩ (.slice ua evs.length uc)).setCell ⟨p, 0, none⟩ (.string (B r))).setCell ⟨p, 1, none⟩ (.int .i64 ((0 : Nat) : Int)))) := Lib.hid (RC.set (((((HC1.out.other (by omega) 0 _).other (by omega) 1 _).other (by omega) 2 _).other (by omega) 3 _).other (by omega) 4 _))
  have HG : Hid (w.grownBy (((((((w1.setCell ⟨w.heap.size + 1, 0, none⟩ (.string (B st))).setCell ⟨w.heap.size + 1, 1, none⟩ (.int .i64 ex)).setCell ⟨w.heap.size + 1, 2, none⟩ (.int .i64 se)).setCell ⟨w.heap.size + 1, 3, none⟩ (.int .i64 sq)).setCell ⟨w.heap.size + 1, 4, none⟩ (.slice ua evs.length uc)).setCell ⟨p, 0, none⟩ (.string (B r))).setCell ⟨p, 1, none⟩ (.int .i64 ((0 : Nat) : Int))) (some p)) := Lib.hid (grown_two (grown_box (grown_box (grown_box (grown_box (grown_box (HG1.out) (by omega) 0 _) (by omega) 1 _) (by omega) 2 _) (by omega) 3 _) (by omega) 4 _) _ _)
  have ho0 := own_other HOW1.out HA51.out (by decide) 0 (.string (B st))
  have hs0 := set_block HA51.out 0 (.string (B st))
  have ho1 := own_other ho0 hs0 (by decide) 1 (.int .i64 ex)
  have hs1 := set_block hs0 1 (.int .i64 ex)
  have ho2 := own_other ho1 hs1 (by decide) 2 (.int .i64 se)
  have hs2 := set_block hs1 2 (.int .i64 se)
  have ho3 := own_other ho2 hs2 (by decide) 3 (.int .i64 sq)
  have hs3 := set_block hs2 3 (.int .i64 sq)
  have ho4 := own_other ho3 hs3 (by decide) 4 (.slice ua evs.length uc)
  have hs4 := set_block hs3 4 (.slice ua evs.length uc)
  have hpc : RC p left 0 (((((w1.setCell ⟨w.heap.size + 1, 0, none⟩ (.string (B st))).setCell ⟨w.heap.size + 1, 1, none⟩ (.int .i64 ex)).setCell ⟨w.heap.size + 1, 2, none⟩ (.int .i64 se)).setCell ⟨w.heap.size + 1, 3, none⟩ (.int .i64 sq)).setCell ⟨w.heap.size + 1, 4, none⟩ (.slice ua evs.length uc)) := (((((HC1.out.other (by omega) 0 _).other (by omega) 1 _).other (by omega) 2 _).other (by omega) 3 _).other (by omega) 4 _)
  have hq0 := own_other ho4 hpc (by decide) 0 (.string (B r))
  have hq1 := own_other hq0 (set_block hpc 0 (.string (B r))) (by decide) 1 (.int .i64 ((0 : Nat) : Int))
  have HOW := Lib.hid hq1
  clear hq0 hq1 hpc ho0 hs0 ho1 hs1 ho2 hs2 ho3 hs3 ho4 hs4
  generalize (((((((w1.setCell ⟨w.heap.size + 1, 0, none⟩ (.string (B st))).setCell ⟨w.heap.size + 1, 1, none⟩ (.int .i64 ex)).setCell ⟨w.heap.size + 1, 2, none⟩ (.int .i64 se)).setCell ⟨w.heap.size + 1, 3, none⟩ (.int .i64 sq)).setCell ⟨w.heap.size + 1, 4, none⟩ (.slice ua evs.length uc)).setCell ⟨p, 0, none⟩ (.string (B r))).setCell ⟨p, 1, none⟩ (.int .i64 ((0 : Nat) : Int))) = W9 at HA5 HA4 HRC HG HOW ⊢
  clear HC1 HA41 HA51 HG1 HOW1 c0 c1 l0 l1 b0 f0 b1 f1 b2 f2 b3 f3 b4 f4
  have x0 := block_cell HA5.out 0
  have x1 := block_cell HA5.out 1
  have x2 := block_cell HA5.out 2
  have x3 := block_cell HA5.out 3
  have x4 := block_cell HA5.out 4
  simp at x0 x1 x2 x3 x4
  have y0 := block_cell HA4.out 0
  have y1 := block_cell HA4.out 1
  have y2 := block_cell HA4.out 2
  have y3 := block_cell HA4.out 3
  have y4 := block_cell HA4.out 4
  simp at y0 y1 y2 y3 y4
  have m0 := block_loose HA4.out 0
  have m1 := block_loose HA4.out 1
  have m2 := block_loose HA4.out 2
  have m3 := block_loose HA4.out 3
  have m4 := block_loose HA4.out 4
  go_wp2
  have HK : Hid (((((((W9.setCell ⟨w.heap.size, 0, none⟩ (.string (B st))).setCell ⟨w.heap.size, 1, none⟩ (.int .i64 ex)).setCell ⟨w.heap.size, 2, none⟩ (.int .i64 se)).setCell ⟨w.heap.size, 3, none⟩ (.int .i64 sq)).setCell ⟨w.heap.size, 4, none⟩ (.slice ua evs.length uc))).heap[w.heap.size]? = some (.cells #[.string (B st), .int .i64 ex, .int .i64 se, .int .i64 sq, .slice ua evs.length uc] 28 (0, 0))) := Lib.hid (set_block (set_block (set_block (set_block (set_block (HA4.out) 0 (.string (B st))) 1 (.int .i64 ex)) 2 (.int .i64 se)) 3 (.int .i64 sq)) 4 (.slice ua evs.length uc))
  have HF : Hid (RM p (.inl r) ((((((W9.setCell ⟨w.heap.size, 0, none⟩ (.string (B st))).setCell ⟨w.heap.size, 1, none⟩ (.int .i64 ex)).setCell ⟨w.heap.size, 2, none⟩ (.int .i64 se)).setCell ⟨w.heap.size, 3, none⟩ (.int .i64 sq)).setCell ⟨w.heap.size, 4, none⟩ (.slice ua evs.length uc)))) := Lib.hid ⟨r, 0, by exact (((((HRC.out.other (by omega) 0 _).other (by omega) 1 _).other (by omega) 2 _).other (by omega) 3 _).other (by omega) 4 _), by first | exact hrlen | simp | omega, by first | exact ⟨rfl, rfl⟩ | exact ⟨rfl, hpos⟩⟩
  have HGF : Hid (w.grownBy ((((((W9.setCell ⟨w.heap.size, 0, none⟩ (.string (B st))).setCell ⟨w.heap.size, 1, none⟩ (.int .i64 ex)).setCell ⟨w.heap.size, 2, none⟩ (.int .i64 se)).setCell ⟨w.heap.size, 3, none⟩ (.int .i64 sq)).setCell ⟨w.heap.size, 4, none⟩ (.slice ua evs.length uc))) (some p)) := Lib.hid (grown_box (grown_box (grown_box (grown_box (grown_box (HG.out) (Nat.le_refl _) 0 _) (Nat.le_refl _) 1 _) (Nat.le_refl _) 2 _) (Nat.le_refl _) 3 _) (Nat.le_refl _) 4 _)
  have ho0 := own_other HOW.out HA4.out (by decide) 0 (.string (B st))
  have hs0 := set_block HA4.out 0 (.string (B st))
  have ho1 := own_other ho0 hs0 (by decide) 1 (.int .i64 ex)
  have hs1 := set_block hs0 1 (.int .i64 ex)
  have ho2 := own_other ho1 hs1 (by decide) 2 (.int .i64 se)
  have hs2 := set_block hs1 2 (.int .i64 se)
  have ho3 := own_other ho2 hs2 (by decide) 3 (.int .i64 sq)
  have hs3 := set_block hs2 3 (.int .i64 sq)
  have ho4 := own_other ho3 hs3 (by decide) 4 (.slice ua evs.length uc)
  have hs4 := set_block hs3 4 (.slice ua evs.length uc)
  have HOF := Lib.hid ho4
  clear ho0 hs0 ho1 hs1 ho2 hs2 ho3 hs3 ho4 hs4
  generalize (((((W9.setCell ⟨w.heap.size, 0, none⟩ (.string (B st))).setCell ⟨w.heap.size, 1, none⟩ (.int .i64 ex)).setCell ⟨w.heap.size, 2, none⟩ (.int .i64 se)).setCell ⟨w.heap.size, 3, none⟩ (.int .i64 sq)).setCell ⟨w.heap.size, 4, none⟩ (.slice ua evs.length uc)) = w9 at HK HF HGF HOF ⊢
  have k0 := block_cell HK.out 0
  have k1 := block_cell HK.out 1
  have k2 := block_cell HK.out 2
  have k3 := block_cell HK.out 3
  have k4 := block_cell HK.out 4
  simp at k0 k1 k2 k3 k4
  exact bodyPost_ret (v := .agg #[.string (B st), .int .i64 ex, .int .i64 se, .int .i64 sq, .slice ua evs.length uc]) (by simp [results, Tryz.results54, go_sem, k0, k1, k2, k3, k4]) rfl ⟨⟨⟨st, ex, se, sq, evs⟩, _, rfl, ⟨_, _, _, rfl⟩, (by first | (intro _ _ e; cases e; exact ⟨rfl, HOF.out⟩) | exact ⟨rfl, HOF.out⟩)⟩, HF.out, HGF.out⟩

set_option maxHeartbeats 4000000 in
set_option maxRecDepth 100000 in
theorem rm_batch_bad {p : Nat} {w : World} {left : List UInt8} {err : Nat} (hc : RC p left err w) (hl : left.length ≤ 1000000) (herr : err = 0) (e : Nat) (HR : Hid (E.takeBat left = Sum.inr e)) (res : K.Rd E.Bat) (hres : res = Sum.inr e) :
    Calls Tryz.prog 54 #[rdP p, .func (.func 55) #[] #[]] w fun x w' => (∃ (z : E.Bat) (v : Value), x = .returned (batV z v) ∧ (∃ a n c, v = .slice a n c) ∧ (∀ a r, res = Sum.inl (a, r) → z = a ∧ w'.ownsRow w.heap.size 55 2 v z.events.length (evCells z.events))) ∧ RM p (rest res) w' ∧ w.grownBy w' (some p) := by
  obtain ⟨hA4, hA5, hB⟩ := two_new w (.cells #[.string ⟨#[]⟩, .int .i64 0, .int .i64 0, .int .i64 0, .slice none 0 0] 28) (.cells #[.string ⟨#[]⟩, .int .i64 0, .int .i64 0, .int .i64 0, .slice none 0 0] 28)
  have hplt : p < w.heap.size := (Array.getElem?_eq_some_iff.1 hc).1
  have hc2 := hc.low hB
  have HC := Lib.hid hc2
  obtain ⟨c0, c1, l0, l1⟩ := hc2.cells
  subst hres herr
  have HA4a := Lib.hid hA4
  have HA5a := Lib.hid hA5
  have HBB := Lib.hid hB
  clear hc hA4 hA5 hB hc2
  have hpos := E.bat_errs left e HR.out
  have HQ : Hid (batRes (E.takeBat left) = (⟨[], 0, 0, 0, []⟩, [], e)) := Lib.hid (by rw [HR.out]; rfl)
  go_enter Tryz.func54, Tryz.ntmps54
  go_wp2_with fail
  refine (ETakeBat_at left ⟨[], 0, 0, 0, []⟩ [] e _ (by omega) HQ).mono ?_
  rintro x w1 ⟨u, rfl, hre1, hb1⟩
  obtain ⟨ua, uc, rfl, -⟩ := hre1
  dsimp only [batV]
  have HC1 := Lib.hid (HC.out.low hb1)
  have HA41 := Lib.hid (block_below HA4a.out hb1)
  have HA51 := Lib.hid (block_below HA5a.out hb1)
  have HG1 := Lib.hid ((grown_below HBB.out).trans (grown_below (row := some p) hb1))
  have hrlen : ([] : List UInt8).length ≤ 1000000 := by simp
  clear hb1 HC HA4a HA5a HBB c0 c1 l0 l1
  obtain ⟨c0, c1, l0, l1⟩ := HC1.out.cells
  have b0 := block_cell HA51.out 0
  have b1 := block_cell HA51.out 1
  have b2 := block_cell HA51.out 2
  have b3 := block_cell HA51.out 3
  have b4 := block_cell HA51.out 4
  simp at b0 b1 b2 b3 b4
  have f0 := block_loose HA51.out 0
  have f1 := block_loose HA51.out 1
  have f2 := block_loose HA51.out 2
  have f3 := block_loose HA51.out 3
  have f4 := block_loose HA51.out 4
  go_upto_region 4 with (fail)
  have HA5 : Hid ((((((((w1.setCell ⟨w.heap.size + 1, 0, none⟩ (.string (B []))).setCell ⟨w.heap.size + 1, 1, none⟩ (.int .i64 0)).setCell ⟨w.heap.size + 1, 2, none⟩ (.int .i64 0)).setCell ⟨w.heap.size + 1, 3, none⟩ (.int .i64 0)).setCell ⟨w.heap.size + 1, 4, none⟩ (.slice ua 0 uc)).setCell ⟨p, 0, none⟩ (.string (B []))).setCell ⟨p, 1, none⟩ (.int .i64 (e : Int))).heap[w.heap.size + 1]? = some (.cells #[.string (B []), .int .i64 0, .int .i64 0, .int .i64 0, .slice ua 0 uc] 28 (0, 0))) := Lib.hid (set_other (set_other (set_block (set_block (set_block (set_block (set_block (HA51.out) 0 (.string (B []))) 1 (.int .i64 0)) 2 (.int .i64 0)) 3 (.int .i64 0)) 4 (.slice ua 0 uc)) (by omega) 0 _) (by omega) 1 _)
  have HA4 : Hid ((((((((w1.setCell ⟨w.heap.size + 1, 0, none⟩ (.string (B []))).setCell ⟨w.heap.size + 1, 1, none⟩ (.int .i64 0)).setCell ⟨w.heap.size + 1, 2, none⟩ (.int .i64 0)).setCell ⟨w.heap.size + 1, 3, none⟩ (.int .i64 0)).setCell ⟨w.heap.size + 1, 4, none⟩ (.slice ua 0 uc)).setCell ⟨p, 0, none⟩ (.string (B []))).setCell ⟨p, 1, none⟩ (.int .i64 (e : Int))).heap[w.heap.size]? = some (.cells #[.string ⟨#[]⟩, .int .i64 0, .int .i64 0, .int .i64 0, .slice none 0 0] 28 (0, 0))) := Lib.hid (set_other (set_other (set_other (set_other (set_other (set_other (set_other HA41.out (by omega) 0 _) (by omega) 1 _) (by omega) 2 _) (by omega) 3 _) (by omega) 4 _) (by omega) 0 _) (by omega) 1 _)
  have HRC : Hid (RC p [] e (((((((w1.setCell ⟨w.heap.size + 1, 0, none⟩ (.string (B []))).setCell ⟨w.heap.size + 1, 1, none⟩ (.int .i64 0)).setCell ⟨w.heap.size + 1, 2, none⟩ (.int .i64 0)).setCell ⟨w.heap.size + 1, 3, none⟩ (.int .i64 0)).setCell ⟨w.heap.size + 1, 4, none⟩ (.slice ua 0 uc)).setCell ⟨p, 0, none⟩ (.string (B []))).setCell ⟨p, 1, none⟩ (.int .i64 (e : Int)))) := Lib.hid (RC.set (((((HC1.out.other (by omega) 0 _).other (by omega) 1 _).other (by omega) 2 _).other (by omega) 3 _).other (by omega) 4 _))
  have HG : Hid (w.grownBy (((((((w1.setCell ⟨w.heap.size + 1, 0, none⟩ (.string (B []))).setCell ⟨w.heap.size + 1, 1, none⟩ (.int .i64 0)).setCell ⟨w.heap.size + 1, 2, none⟩ (.int .i64 0)).setCell ⟨w.heap.size + 1, 3, none⟩ (.int .i64 0)).setCell ⟨w.heap.size + 1, 4, none⟩ (.slice ua 0 uc)).setCell ⟨p, 0, none⟩ (.string (B []))).setCell ⟨p, 1, none⟩ (.int .i64 (e : Int))) (some p)) := Lib.hid (grown_two (grown_box (grown_box (grown_box (grown_box (grown_box (HG1.out) (by omega) 0 _) (by omega) 1 _) (by omega) 2 _) (by omega) 3 _) (by omega) 4 _) _ _)
  generalize (((((((w1.setCell ⟨w.heap.size + 1, 0, none⟩ (.string (B []))).setCell ⟨w.heap.size + 1, 1, none⟩ (.int .i64 0)).setCell ⟨w.heap.size + 1, 2, none⟩ (.int .i64 0)).setCell ⟨w.heap.size + 1, 3, none⟩ (.int .i64 0)).setCell ⟨w.heap.size + 1, 4, none⟩ (.slice ua 0 uc)).setCell ⟨p, 0, none⟩ (.string (B []))).setCell ⟨p, 1, none⟩ (.int .i64 (e : Int))) = W9 at HA5 HA4 HRC HG ⊢
  clear HC1 HA41 HA51 HG1 c0 c1 l0 l1 b0 f0 b1 f1 b2 f2 b3 f3 b4 f4
  have x0 := block_cell HA5.out 0
  have x1 := block_cell HA5.out 1
  have x2 := block_cell HA5.out 2
  have x3 := block_cell HA5.out 3
  have x4 := block_cell HA5.out 4
  simp at x0 x1 x2 x3 x4
  have y0 := block_cell HA4.out 0
  have y1 := block_cell HA4.out 1
  have y2 := block_cell HA4.out 2
  have y3 := block_cell HA4.out 3
  have y4 := block_cell HA4.out 4
  simp at y0 y1 y2 y3 y4
  have m0 := block_loose HA4.out 0
  have m1 := block_loose HA4.out 1
  have m2 := block_loose HA4.out 2
  have m3 := block_loose HA4.out 3
  have m4 := block_loose HA4.out 4
  go_wp2
  have HK : Hid (((((((W9.setCell ⟨w.heap.size, 0, none⟩ (.string (B []))).setCell ⟨w.heap.size, 1, none⟩ (.int .i64 0)).setCell ⟨w.heap.size, 2, none⟩ (.int .i64 0)).setCell ⟨w.heap.size, 3, none⟩ (.int .i64 0)).setCell ⟨w.heap.size, 4, none⟩ (.slice ua 0 uc))).heap[w.heap.size]? = some (.cells #[.string (B []), .int .i64 0, .int .i64 0, .int .i64 0, .slice ua 0 uc] 28 (0, 0))) := Lib.hid (set_block (set_block (set_block (set_block (set_block (HA4.out) 0 (.string (B []))) 1 (.int .i64 0)) 2 (.int .i64 0)) 3 (.int .i64 0)) 4 (.slice ua 0 uc))
  have HF : Hid (RM p (.inr e) ((((((W9.setCell ⟨w.heap.size, 0, none⟩ (.string (B []))).setCell ⟨w.heap.size, 1, none⟩ (.int .i64 0)).setCell ⟨w.heap.size, 2, none⟩ (.int .i64 0)).setCell ⟨w.heap.size, 3, none⟩ (.int .i64 0)).setCell ⟨w.heap.size, 4, none⟩ (.slice ua 0 uc)))) := Lib.hid ⟨[], e, by exact (((((HRC.out.other (by omega) 0 _).other (by omega) 1 _).other (by omega) 2 _).other (by omega) 3 _).other (by omega) 4 _), by first | exact hrlen | simp | omega, by first | exact ⟨rfl, rfl⟩ | exact ⟨rfl, hpos⟩⟩
  have HGF : Hid (w.grownBy ((((((W9.setCell ⟨w.heap.size, 0, none⟩ (.string (B []))).setCell ⟨w.heap.size, 1, none⟩ (.int .i64 0)).setCell ⟨w.heap.size, 2, none⟩ (.int .i64 0)).setCell ⟨w.heap.size, 3, none⟩ (.int .i64 0)).setCell ⟨w.heap.size, 4, none⟩ (.slice ua 0 uc))) (some p)) := Lib.hid (grown_box (grown_box (grown_box (grown_box (grown_box (HG.out) (Nat.le_refl _) 0 _) (Nat.le_refl _) 1 _) (Nat.le_refl _) 2 _) (Nat.le_refl _) 3 _) (Nat.le_refl _) 4 _)
  generalize (((((W9.setCell ⟨w.heap.size, 0, none⟩ (.string (B []))).setCell ⟨w.heap.size, 1, none⟩ (.int .i64 0)).setCell ⟨w.heap.size, 2, none⟩ (.int .i64 0)).setCell ⟨w.heap.size, 3, none⟩ (.int .i64 0)).setCell ⟨w.heap.size, 4, none⟩ (.slice ua 0 uc)) = w9 at HK HF HGF ⊢
  have k0 := block_cell HK.out 0
  have k1 := block_cell HK.out 1
  have k2 := block_cell HK.out 2
  have k3 := block_cell HK.out 3
  have k4 := block_cell HK.out 4
  simp at k0 k1 k2 k3 k4
  exact bodyPost_ret (v := .agg #[.string (B []), .int .i64 0, .int .i64 0, .int .i64 0, .slice ua 0 uc]) (by simp [results, Tryz.results54, go_sem, k0, k1, k2, k3, k4]) rfl ⟨⟨⟨[], 0, 0, 0, []⟩, _, rfl, ⟨_, _, _, rfl⟩, (fun a r e => by cases e)⟩, HF.out, HGF.out⟩
theorem rm_batch0 {p : Nat} {o : Rs} {w : World} (h : RM p o w) (res : K.Rd E.Bat) (H : Hid (run E.takeBat o = res)) :
    Calls Tryz.prog 54 #[rdP p, .func (.func 55) #[] #[]] w fun x w' => (∃ (z : E.Bat) (v : Value), x = .returned (batV z v) ∧ (∃ a n c, v = .slice a n c) ∧ (∀ a r, res = Sum.inl (a, r) → z = a ∧ w'.ownsRow w.heap.size 55 2 v z.events.length (evCells z.events))) ∧ RM p (rest res) w' ∧ w.grownBy w' (some p) := by
  obtain ⟨left, err, hc, hl, ho⟩ := h
  match o, ho with
  | .inr e, ho => exact rm_batch_err hc hl (by rw [ho.1]; exact ho.2) res (by rw [ho.1]; exact H.out.symm)
  | .inl l, ho =>
    obtain ⟨h0, rfl⟩ := ho
    have hres : E.takeBat left = res := H.out
    rcases res with ⟨a, r⟩ | e
    · exact rm_batch_ok hc hl h0 a r (Lib.hid hres) _ rfl
    · exact rm_batch_bad hc hl h0 e (Lib.hid hres) _ rfl
end Go.Proofs.YtljcgpdjhjkciaaGreat
namespace Go.Proofs.YtljcgpdjhjkciaaGreat
open Go.RowKit
attribute [local go_sem] ext_Bd ext_Bl ext_Bt toList_B add_B size_B get_Bt

set_option maxHeartbeats 4000000 in
set_option maxRecDepth 100000 in
theorem rm_entry_err {p : Nat} {w : World} {left : List UInt8} {err : Nat} (hc : RC p left err w) (hl : left.length ≤ 1000000) (hpos : 0 < err) (res : K.Rd R.En) (hres : res = Sum.inr err) :
    Calls Tryz.prog 74 #[rdP p, .func (.func 75) #[] #[]] w fun x w' => (∃ (z : R.En) (v : Value), x = .returned (enV z v) ∧ w'.ownsRow w.heap.size 55 2 v z.b.events.length (evCells z.b.events) ∧ (∀ a r, res = Sum.inl (a, r) → z = a)) ∧ RM p (rest res) w' ∧ w.grownBy w' (some p) := by
  obtain ⟨hA4, hA5, hB⟩ := two_new w (.cells #[.int .i64 0, .int .i64 0, .string ⟨#[]⟩, .int .i64 0, .int .i64 0, .int .i64 0, .slice none 0 0] 53) (.cells #[.int .i64 0, .int .i64 0, .string ⟨#[]⟩, .int .i64 0, .int .i64 0, .int .i64 0, .slice none 0 0] 53)
  have hplt : p < w.heap.size := (Array.getElem?_eq_some_iff.1 hc).1
  have hc2 := hc.low hB
  have HC := Lib.hid hc2
  obtain ⟨c0, c1, l0, l1⟩ := hc2.cells
  subst hres
  obtain ⟨h1, h2⟩ := err_bd hpos
  have hrlen := hl
  obtain ⟨W9, HW9⟩ : ∃ W9, Hid ((w.alloc (.cells #[.int .i64 0, .int .i64 0, .string ⟨#[]⟩, .int .i64 0, .int .i64 0, .int .i64 0, .slice none 0 0] 53)).alloc (.cells #[.int .i64 0, .int .i64 0, .string ⟨#[]⟩, .int .i64 0, .int .i64 0, .int .i64 0, .slice none 0 0] 53) = W9) := ⟨_, Lib.hid rfl⟩
  have HA4 : Hid (W9.heap[w.heap.size]? = some (.cells #[.int .i64 0, .int .i64 0, .string ⟨#[]⟩, .int .i64 0, .int .i64 0, .int .i64 0, .slice none 0 0] 53 (0, 0))) := Lib.hid (by rw [← HW9.out]; exact hA4)
  have HA5 : Hid (W9.heap[w.heap.size + 1]? = some (.cells #[.int .i64 0, .int .i64 0, .string ⟨#[]⟩, .int .i64 0, .int .i64 0, .int .i64 0, .slice none 0 0] 53 (0, 0))) := Lib.hid (by rw [← HW9.out]; exact hA5)
  have HRC : Hid (RC p left err W9) := Lib.hid (by rw [← HW9.out]; exact HC.out)
  have HG : Hid (w.grownBy W9 (some p)) := Lib.hid (by rw [← HW9.out]; exact grown_below hB)
  clear hc hA4 hA5 hB hc2 HC
  go_enter Tryz.func74, Tryz.ntmps74
  go_upto_region 4 with (fail)
  rw [HW9.out]
  clear HW9 c0 c1 l0 l1
  have x0 := block_cell HA5.out 0
  have x1 := block_cell HA5.out 1
  have x2 := block_cell HA5.out 2
  have x3 := block_cell HA5.out 3
  have x4 := block_cell HA5.out 4
  have x5 := block_cell HA5.out 5
  have x6 := block_cell HA5.out 6
  simp at x0 x1 x2 x3 x4 x5 x6
  have y0 := block_cell HA4.out 0
  have y1 := block_cell HA4.out 1
  have y2 := block_cell HA4.out 2
  have y3 := block_cell HA4.out 3
  have y4 := block_cell HA4.out 4
  have y5 := block_cell HA4.out 5
  have y6 := block_cell HA4.out 6
  simp at y0 y1 y2 y3 y4 y5 y6
  have m0 := block_loose HA4.out 0
  have m1 := block_loose HA4.out 1
  have m2 := block_loose HA4.out 2
  have m3 := block_loose HA4.out 3
  have m4 := block_loose HA4.out 4
  have m5 := block_loose HA4.out 5
  have m6 := block_loose HA4.out 6
  go_wp2
  have HK : Hid (((((((((W9.setCell ⟨w.heap.size, 0, none⟩ (.int .i64 0)).setCell ⟨w.heap.size, 1, none⟩ (.int .i64 0)).setCell ⟨w.heap.size, 2, none⟩ (.string ⟨#[]⟩)).setCell ⟨w.heap.size, 3, none⟩ (.int .i64 0)).setCell ⟨w.heap.size, 4, none⟩ (.int .i64 0)).setCell ⟨w.heap.size, 5, none⟩ (.int .i64 0)).setCell ⟨w.heap.size, 6, none⟩ (.slice none 0 0))).heap[w.heap.size]? = some (.cells #[.int .i64 0, .int .i64 0, .string ⟨#[]⟩, .int .i64 0, .int .i64 0, .int .i64 0, .slice none 0 0] 53 (0, 0))) := Lib.hid (set_block (set_block (set_block (set_block (set_block (set_block (set_block (HA4.out) 0 (.int .i64 0)) 1 (.int .i64 0)) 2 (.string ⟨#[]⟩)) 3 (.int .i64 0)) 4 (.int .i64 0)) 5 (.int .i64 0)) 6 (.slice none 0 0))
  have HF : Hid (RM p (.inr err) ((((((((W9.setCell ⟨w.heap.size, 0, none⟩ (.int .i64 0)).setCell ⟨w.heap.size, 1, none⟩ (.int .i64 0)).setCell ⟨w.heap.size, 2, none⟩ (.string ⟨#[]⟩)).setCell ⟨w.heap.size, 3, none⟩ (.int .i64 0)).setCell ⟨w.heap.size, 4, none⟩ (.int .i64 0)).setCell ⟨w.heap.size, 5, none⟩ (.int .i64 0)).setCell ⟨w.heap.size, 6, none⟩ (.slice none 0 0)))) := Lib.hid ⟨left, err, by exact (((((((HRC.out.other (by omega) 0 _).other (by omega) 1 _).other (by omega) 2 _).other (by omega) 3 _).other (by omega) 4 _).other (by omega) 5 _).other (by omega) 6 _), by first | exact hrlen | simp | omega, by first | exact ⟨rfl, rfl⟩ | exact ⟨rfl, hpos⟩⟩
  have HGF : Hid (w.grownBy ((((((((W9.setCell ⟨w.heap.size, 0, none⟩ (.int .i64 0)).setCell ⟨w.heap.size, 1, none⟩ (.int .i64 0)).setCell ⟨w.heap.size, 2, none⟩ (.string ⟨#[]⟩)).setCell ⟨w.heap.size, 3, none⟩ (.int .i64 0)).setCell ⟨w.heap.size, 4, none⟩ (.int .i64 0)).setCell ⟨w.heap.size, 5, none⟩ (.int .i64 0)).setCell ⟨w.heap.size, 6, none⟩ (.slice none 0 0))) (some p)) := Lib.hid (grown_box (grown_box (grown_box (grown_box (grown_box (grown_box (grown_box (HG.out) (Nat.le_refl _) 0 _) (Nat.le_refl _) 1 _) (Nat.le_refl _) 2 _) (Nat.le_refl _) 3 _) (Nat.le_refl _) 4 _) (Nat.le_refl _) 5 _) (Nat.le_refl _) 6 _)
  generalize (((((((W9.setCell ⟨w.heap.size, 0, none⟩ (.int .i64 0)).setCell ⟨w.heap.size, 1, none⟩ (.int .i64 0)).setCell ⟨w.heap.size, 2, none⟩ (.string ⟨#[]⟩)).setCell ⟨w.heap.size, 3, none⟩ (.int .i64 0)).setCell ⟨w.heap.size, 4, none⟩ (.int .i64 0)).setCell ⟨w.heap.size, 5, none⟩ (.int .i64 0)).setCell ⟨w.heap.size, 6, none⟩ (.slice none 0 0)) = w9 at HK HF HGF ⊢
  have k0 := block_cell HK.out 0
  have k1 := block_cell HK.out 1
  have k2 := block_cell HK.out 2
  have k3 := block_cell HK.out 3
  have k4 := block_cell HK.out 4
  have k5 := block_cell HK.out 5
  have k6 := block_cell HK.out 6
  simp at k0 k1 k2 k3 k4 k5 k6
  exact bodyPost_ret (v := .agg #[.int .i64 0, .int .i64 0, .string ⟨#[]⟩, .int .i64 0, .int .i64 0, .int .i64 0, .slice none 0 0]) (by simp [results, Tryz.results74, go_sem, k0, k1, k2, k3, k4, k5, k6]) rfl ⟨⟨⟨0, 0, ⟨[], 0, 0, 0, []⟩⟩, _, rfl, World.ownsRow_nil _ _ _ _, (fun a r e => by cases e)⟩, HF.out, HGF.out⟩

set_option maxHeartbeats 4000000 in
set_option maxRecDepth 100000 in
theorem rm_entry_ok {p : Nat} {w : World} {left : List UInt8} {err : Nat} (hc : RC p left err w) (hl : left.length ≤ 1000000) (herr : err = 0) (a : R.En) (r : List UInt8) (HR : Hid (R.takeEn left = Sum.inl (a, r))) (res : K.Rd R.En) (hres : res = Sum.inl (a, r)) :
    Calls Tryz.prog 74 #[rdP p, .func (.func 75) #[] #[]] w fun x w' => (∃ (z : R.En) (v : Value), x = .returned (enV z v) ∧ w'.ownsRow w.heap.size 55 2 v z.b.events.length (evCells z.b.events) ∧ (∀ a r, res = Sum.inl (a, r) → z = a)) ∧ RM p (rest res) w' ∧ w.grownBy w' (some p) := by
  obtain ⟨hA4, hA5, hB⟩ := two_new w (.cells #[.int .i64 0, .int .i64 0, .string ⟨#[]⟩, .int .i64 0, .int .i64 0, .int .i64 0, .slice none 0 0] 53) (.cells #[.int .i64 0, .int .i64 0, .string ⟨#[]⟩, .int .i64 0, .int .i64 0, .int .i64 0, .slice none 0 0] 53)
  have hplt : p < w.heap.size := (Array.getElem?_eq_some_iff.1 hc).1
  have hc2 := hc.low hB
  have HC := Lib.hid hc2
  obtain ⟨c0, c1, l0, l1⟩ := hc2.cells
  subst hres herr
  have HA4a := Lib.hid hA4
  have HA5a := Lib.hid hA5
  have HBB := Lib.hid hB
  clear hc hA4 hA5 hB hc2
  have HRI := Lib.hid (R.take_inv HR.out).2
  have HQ := Lib.hid (R.take_inv HR.out).1
  have HSM := Lib.hid (right_small HRI.out)
  obtain ⟨pos, ep, ⟨st, ex, se, sq, evs⟩⟩ := a
  go_enter Tryz.func74, Tryz.ntmps74
  go_wp2_with fail
  refine (Take6_ok ⟨pos, ep, ⟨st, ex, se, sq, evs⟩⟩ left r _ HRI.out HSM.out HQ (by omega)).mono ?_
  rintro x w1 ⟨u, rfl, how1, hb1⟩
  have HOW1 := Lib.hid (own_base5 (b := w.heap.size) how1 (by simp only [World.size_alloc]; omega))
  obtain ⟨ua, uc, rfl, -⟩ := own_slice how1
  dsimp only [enV]
  clear how1
  have HC1 := Lib.hid (HC.out.low hb1)
  have HA41 := Lib.hid (block_below HA4a.out hb1)
  have HA51 := Lib.hid (block_below HA5a.out hb1)
  have HG1 := Lib.hid ((grown_below HBB.out).trans (grown_below (row := some p) hb1))
  have hrlen : r.length ≤ 1000000 := by have := congrArg List.length HQ.out; rw [List.length_append] at this; omega
  clear hb1 HC HA4a HA5a HBB c0 c1 l0 l1
  obtain ⟨c0, c1, l0, l1⟩ := HC1.out.cells
  have b0 := block_cell HA51.out 0
  have b1 := block_cell HA51.out 1
  have b2 := block_cell HA51.out 2
  have b3 := block_cell HA51.out 3
  have b4 := block_cell HA51.out 4
  have b5 := block_cell HA51.out 5
  have b6 := block_cell HA51.out 6
  simp at b0 b1 b2 b3 b4 b5 b6
  have f0 := block_loose HA51.out 0
  have f1 := block_loose HA51.out 1
  have f2 := block_loose HA51.out 2
  have f3 := block_loose HA51.out 3
  have f4 := block_loose HA51.out 4
  have f5 := block_loose HA51.out 5
  have f6 := block_loose HA51.out 6
  go_upto_region 4 with (fail)
  have HA5 : Hid ((((((((((w1.setCell ⟨w.heap.size + 1, 0, none⟩ (.int .i64 pos)).setCell ⟨w.heap.size + 1, 1, none⟩ (.int .i64 ep)).setCell ⟨w.heap.size + 1, 2, none⟩ (.string (B st))).setCell ⟨w.heap.size + 1, 3, none⟩ (.int .i64 ex)).setCell ⟨w.heap.size + 1, 4, none⟩ (.int .i64 se)).setCell ⟨w.heap.size + 1, 5, none⟩ (.int .i64 sq)).setCell ⟨w.heap.size + 1, 6, none⟩ (.slice ua evs.length uc)).setCell ⟨p, 0, none⟩ (.string (B r))).setCell ⟨p, 1, none⟩ (.int .i64 ((0 : Nat) : Int))).heap[w.heap.size + 1]? = some (.cells #[.int .i64 pos, .int .i64 ep, .string (B st), .int .i64 ex, .int .i64 se, .int .i64 sq, .slice ua evs.length uc] 53 (0, 0))) := Lib.hid (set_other (set_other (set_block (set_block (set_block (set_block (set_block (set_block (set_block (HA51.out) 0 (.int .i64 pos)) 1 (.int .i64 ep)) 2 (.string (B st))) 3 (.int .i64 ex)) 4 (.int .i64 se)) 5 (.int .i64 sq)) 6 (.slice ua evs.length uc)) (by omega) 0 _) (by omega) 1 _)
  have HA4 : Hid ((((((((((w1.setCell ⟨w.heap.size + 1, 0, none⟩ (.int .i64 pos)).setCell ⟨w.heap.size + 1, 1, none⟩ (.int .i64 ep)).setCell ⟨w.heap.size + 1, 2, none⟩ (.string (B st))).setCell ⟨w.heap.size + 1, 3, none⟩ (.int .i64 ex)).setCell ⟨w.heap.size + 1, 4, none⟩ (.int .i64 se)).setCell ⟨w.heap.size + 1, 5, none⟩ (.int .i64 sq)).setCell ⟨w.heap.size + 1, 6, none⟩ (.slice ua evs.length uc)).setCell ⟨p, 0, none⟩ (.string (B r))).setCell ⟨p, 1, none⟩ (.int .i64 ((0 : Nat) : Int))).heap[w.heap.size]? = some (.cells #[.int .i64 0, .int .i64 0, .string ⟨#[]⟩, .int .i64 0, .int .i64 0, .int .i64 0, .slice none 0 0] 53 (0, 0))) := Lib.hid (set_other (set_other (set_other (set_other (set_other (set_other (set_other (set_other (set_other HA41.out (by omega) 0 _) (by omega) 1 _) (by omega) 2 _) (by omega) 3 _) (by omega) 4 _) (by omega) 5 _) (by omega) 6 _) (by omega) 0 _) (by omega) 1 _)
  have HRC : Hid (RC p r 0 (((((((((w1.setCell ⟨w.heap.size + 1, 0, none⟩ (.int .i64 pos)).setCell ⟨w.heap.size + 1, 1, none⟩ (.int .i64 ep)).setCell ⟨w.heap.size + 1, 2, none⟩ (.string (B st))).setCell ⟨w.heap.size + 1, 3, none⟩ (.int .i64 ex)).setCell ⟨w.heap.size + 1, 4, none⟩ (.int .i64 se)).setCell ⟨w.heap.size + 1, 5, none⟩ (.int .i64 sq)).setCell ⟨w.heap.size + 1, 6, none⟩ (.slice ua evs.length uc)).setCell ⟨p, 0, none⟩ (.string (B r))).setCell ⟨p, 1, none⟩ (.int .i64 ((0 : Nat) : Int)))) := Lib.hid (RC.set (((((((HC1.out.other (by omega) 0 _).other (by omega) 1 _).other (by omega) 2 _).other (by omega) 3 _).other (by omega) 4 _).other (by omega) 5 _).other (by omega) 6 _))
  have HG : Hid (w.grownBy (((((((((w1.setCell ⟨w.heap.size + 1, 0, none⟩ (.int .i64 pos)).setCell ⟨w.heap.size + 1, 1, none⟩ (.int .i64 ep)).setCell ⟨w.heap.size + 1, 2, none⟩ (.string (B st))).setCell ⟨w.heap.size + 1, 3, none⟩ (.int .i64 ex)).setCell ⟨w.heap.size + 1, 4, none⟩ (.int .i64 se)).setCell ⟨w.heap.size + 1, 5, none⟩ (.int .i64 sq)).setCell ⟨w.heap.size + 1, 6, none⟩ (.slice ua evs.length uc)).setCell ⟨p, 0, none⟩ (.string (B r))).setCell ⟨p, 1, none⟩ (.int .i64 ((0 : Nat) : Int))) (some p)) := Lib.hid (grown_two (grown_box (grown_box (grown_box (grown_box (grown_box (grown_box (grown_box (HG1.out) (by omega) 0 _) (by omega) 1 _) (by omega) 2 _) (by omega) 3 _) (by omega) 4 _) (by omega) 5 _) (by omega) 6 _) _ _)
  have ho0 := own_other HOW1.out HA51.out (by decide) 0 (.int .i64 pos)
  have hs0 := set_block HA51.out 0 (.int .i64 pos)
  have ho1 := own_other ho0 hs0 (by decide) 1 (.int .i64 ep)
  have hs1 := set_block hs0 1 (.int .i64 ep)
  have ho2 := own_other ho1 hs1 (by decide) 2 (.string (B st))
  have hs2 := set_block hs1 2 (.string (B st))
  have ho3 := own_other ho2 hs2 (by decide) 3 (.int .i64 ex)
  have hs3 := set_block hs2 3 (.int .i64 ex)
  have ho4 := own_other ho3 hs3 (by decide) 4 (.int .i64 se)
  have hs4 := set_block hs3 4 (.int .i64 se)
  have ho5 := own_other ho4 hs4 (by decide) 5 (.int .i64 sq)
  have hs5 := set_block hs4 5 (.int .i64 sq)
  have ho6 := own_other ho5 hs5 (by decide) 6 (.slice ua evs.length uc)
  have hs6 := set_block hs5 6 (.slice ua evs.length uc)
  have hpc : RC p left 0 (((((((w1.setCell ⟨w.heap.size + 1, 0, none⟩ (.int .i64 pos)).setCell ⟨w.heap.size + 1, 1, none⟩ (.int .i64 ep)).setCell ⟨w.heap.size + 1, 2, none⟩ (.string (B st))).setCell ⟨w.heap.size + 1, 3, none⟩ (.int .i64 ex)).setCell ⟨w.heap.size + 1, 4, none⟩ (.int .i64 se)).setCell ⟨w.heap.size + 1, 5, none⟩ (.int .i64 sq)).setCell ⟨w.heap.size + 1, 6, none⟩ (.slice ua evs.length uc)) := (((((((HC1.out.other (by omega) 0 _).other (by omega) 1 _).other (by omega) 2 _).other (by omega) 3 _).other (by omega) 4 _).other (by omega) 5 _).other (by omega) 6 _)
  have hq0 := own_other ho6 hpc (by decide) 0 (.string (B r))
  have hq1 := own_other hq0 (set_block hpc 0 (.string (B r))) (by decide) 1 (.int .i64 ((0 : Nat) : Int))
  have HOW := Lib.hid hq1
  clear hq0 hq1 hpc ho0 hs0 ho1 hs1 ho2 hs2 ho3 hs3 ho4 hs4 ho5 hs5 ho6 hs6
  generalize (((((((((w1.setCell ⟨w.heap.size + 1, 0, none⟩ (.int .i64 pos)).setCell ⟨w.heap.size + 1, 1, none⟩ (.int .i64 ep)).setCell ⟨w.heap.size + 1, 2, none⟩ (.string (B st))).setCell ⟨w.heap.size + 1, 3, none⟩ (.int .i64 ex)).setCell ⟨w.heap.size + 1, 4, none⟩ (.int .i64 se)).setCell ⟨w.heap.size + 1, 5, none⟩ (.int .i64 sq)).setCell ⟨w.heap.size + 1, 6, none⟩ (.slice ua evs.length uc)).setCell ⟨p, 0, none⟩ (.string (B r))).setCell ⟨p, 1, none⟩ (.int .i64 ((0 : Nat) : Int))) = W9 at HA5 HA4 HRC HG HOW ⊢
  clear HC1 HA41 HA51 HG1 HOW1 c0 c1 l0 l1 b0 f0 b1 f1 b2 f2 b3 f3 b4 f4 b5 f5 b6 f6
  have x0 := block_cell HA5.out 0
  have x1 := block_cell HA5.out 1
  have x2 := block_cell HA5.out 2
  have x3 := block_cell HA5.out 3
  have x4 := block_cell HA5.out 4
  have x5 := block_cell HA5.out 5
  have x6 := block_cell HA5.out 6
  simp at x0 x1 x2 x3 x4 x5 x6
  have y0 := block_cell HA4.out 0
  have y1 := block_cell HA4.out 1
  have y2 := block_cell HA4.out 2
  have y3 := block_cell HA4.out 3
  have y4 := block_cell HA4.out 4
  have y5 := block_cell HA4.out 5
  have y6 := block_cell HA4.out 6
  simp at y0 y1 y2 y3 y4 y5 y6
  have m0 := block_loose HA4.out 0
  have m1 := block_loose HA4.out 1
  have m2 := block_loose HA4.out 2
  have m3 := block_loose HA4.out 3
  have m4 := block_loose HA4.out 4
  have m5 := block_loose HA4.out 5
  have m6 := block_loose HA4.out 6
  go_wp2
  have HK : Hid (((((((((W9.setCell ⟨w.heap.size, 0, none⟩ (.int .i64 pos)).setCell ⟨w.heap.size, 1, none⟩ (.int .i64 ep)).setCell ⟨w.heap.size, 2, none⟩ (.string (B st))).setCell ⟨w.heap.size, 3, none⟩ (.int .i64 ex)).setCell ⟨w.heap.size, 4, none⟩ (.int .i64 se)).setCell ⟨w.heap.size, 5, none⟩ (.int .i64 sq)).setCell ⟨w.heap.size, 6, none⟩ (.slice ua evs.length uc))).heap[w.heap.size]? = some (.cells #[.int .i64 pos, .int .i64 ep, .string (B st), .int .i64 ex, .int .i64 se, .int .i64 sq, .slice ua evs.length uc] 53 (0, 0))) := Lib.hid (set_block (set_block (set_block (set_block (set_block (set_block (set_block (HA4.out) 0 (.int .i64 pos)) 1 (.int .i64 ep)) 2 (.string (B st))) 3 (.int .i64 ex)) 4 (.int .i64 se)) 5 (.int .i64 sq)) 6 (.slice ua evs.length uc))
  have HF : Hid (RM p (.inl r) ((((((((W9.setCell ⟨w.heap.size, 0, none⟩ (.int .i64 pos)).setCell ⟨w.heap.size, 1, none⟩ (.int .i64 ep)).setCell ⟨w.heap.size, 2, none⟩ (.string (B st))).setCell ⟨w.heap.size, 3, none⟩ (.int .i64 ex)).setCell ⟨w.heap.size, 4, none⟩ (.int .i64 se)).setCell ⟨w.heap.size, 5, none⟩ (.int .i64 sq)).setCell ⟨w.heap.size, 6, none⟩ (.slice ua evs.length uc)))) := Lib.hid ⟨r, 0, by exact (((((((HRC.out.other (by omega) 0 _).other (by omega) 1 _).other (by omega) 2 _).other (by omega) 3 _).other (by omega) 4 _).other (by omega) 5 _).other (by omega) 6 _), by first | exact hrlen | simp | omega, by first | exact ⟨rfl, rfl⟩ | exact ⟨rfl, hpos⟩⟩
  have HGF : Hid (w.grownBy ((((((((W9.setCell ⟨w.heap.size, 0, none⟩ (.int .i64 pos)).setCell ⟨w.heap.size, 1, none⟩ (.int .i64 ep)).setCell ⟨w.heap.size, 2, none⟩ (.string (B st))).setCell ⟨w.heap.size, 3, none⟩ (.int .i64 ex)).setCell ⟨w.heap.size, 4, none⟩ (.int .i64 se)).setCell ⟨w.heap.size, 5, none⟩ (.int .i64 sq)).setCell ⟨w.heap.size, 6, none⟩ (.slice ua evs.length uc))) (some p)) := Lib.hid (grown_box (grown_box (grown_box (grown_box (grown_box (grown_box (grown_box (HG.out) (Nat.le_refl _) 0 _) (Nat.le_refl _) 1 _) (Nat.le_refl _) 2 _) (Nat.le_refl _) 3 _) (Nat.le_refl _) 4 _) (Nat.le_refl _) 5 _) (Nat.le_refl _) 6 _)
  have ho0 := own_other HOW.out HA4.out (by decide) 0 (.int .i64 pos)
  have hs0 := set_block HA4.out 0 (.int .i64 pos)
  have ho1 := own_other ho0 hs0 (by decide) 1 (.int .i64 ep)
  have hs1 := set_block hs0 1 (.int .i64 ep)
  have ho2 := own_other ho1 hs1 (by decide) 2 (.string (B st))
  have hs2 := set_block hs1 2 (.string (B st))
  have ho3 := own_other ho2 hs2 (by decide) 3 (.int .i64 ex)
  have hs3 := set_block hs2 3 (.int .i64 ex)
  have ho4 := own_other ho3 hs3 (by decide) 4 (.int .i64 se)
  have hs4 := set_block hs3 4 (.int .i64 se)
  have ho5 := own_other ho4 hs4 (by decide) 5 (.int .i64 sq)
  have hs5 := set_block hs4 5 (.int .i64 sq)
  have ho6 := own_other ho5 hs5 (by decide) 6 (.slice ua evs.length uc)
  have hs6 := set_block hs5 6 (.slice ua evs.length uc)
  have HOF := Lib.hid ho6
  clear ho0 hs0 ho1 hs1 ho2 hs2 ho3 hs3 ho4 hs4 ho5 hs5 ho6 hs6
  generalize (((((((W9.setCell ⟨w.heap.size, 0, none⟩ (.int .i64 pos)).setCell ⟨w.heap.size, 1, none⟩ (.int .i64 ep)).setCell ⟨w.heap.size, 2, none⟩ (.string (B st))).setCell ⟨w.heap.size, 3, none⟩ (.int .i64 ex)).setCell ⟨w.heap.size, 4, none⟩ (.int .i64 se)).setCell ⟨w.heap.size, 5, none⟩ (.int .i64 sq)).setCell ⟨w.heap.size, 6, none⟩ (.slice ua evs.length uc)) = w9 at HK HF HGF HOF ⊢
  have k0 := block_cell HK.out 0
  have k1 := block_cell HK.out 1
  have k2 := block_cell HK.out 2
  have k3 := block_cell HK.out 3
  have k4 := block_cell HK.out 4
  have k5 := block_cell HK.out 5
  have k6 := block_cell HK.out 6
  simp at k0 k1 k2 k3 k4 k5 k6
  exact bodyPost_ret (v := .agg #[.int .i64 pos, .int .i64 ep, .string (B st), .int .i64 ex, .int .i64 se, .int .i64 sq, .slice ua evs.length uc]) (by simp [results, Tryz.results74, go_sem, k0, k1, k2, k3, k4, k5, k6]) rfl ⟨⟨⟨pos, ep, ⟨st, ex, se, sq, evs⟩⟩, _, rfl, HOF.out, (by first | (intro _ _ e; cases e; rfl) | rfl)⟩, HF.out, HGF.out⟩

set_option maxHeartbeats 4000000 in
set_option maxRecDepth 100000 in
theorem rm_entry_bad {p : Nat} {w : World} {left : List UInt8} {err : Nat} (hc : RC p left err w) (hl : left.length ≤ 1000000) (herr : err = 0) (e : Nat) (HR : Hid (R.takeEn left = Sum.inr e)) (res : K.Rd R.En) (hres : res = Sum.inr e) :
    Calls Tryz.prog 74 #[rdP p, .func (.func 75) #[] #[]] w fun x w' => (∃ (z : R.En) (v : Value), x = .returned (enV z v) ∧ w'.ownsRow w.heap.size 55 2 v z.b.events.length (evCells z.b.events) ∧ (∀ a r, res = Sum.inl (a, r) → z = a)) ∧ RM p (rest res) w' ∧ w.grownBy w' (some p) := by
  obtain ⟨hA4, hA5, hB⟩ := two_new w (.cells #[.int .i64 0, .int .i64 0, .string ⟨#[]⟩, .int .i64 0, .int .i64 0, .int .i64 0, .slice none 0 0] 53) (.cells #[.int .i64 0, .int .i64 0, .string ⟨#[]⟩, .int .i64 0, .int .i64 0, .int .i64 0, .slice none 0 0] 53)
  have hplt : p < w.heap.size := (Array.getElem?_eq_some_iff.1 hc).1
  have hc2 := hc.low hB
  have HC := Lib.hid hc2
  obtain ⟨c0, c1, l0, l1⟩ := hc2.cells
  subst hres herr
  have HA4a := Lib.hid hA4
  have HA5a := Lib.hid hA5
  have HBB := Lib.hid hB
  clear hc hA4 hA5 hB hc2
  have hpos := R.en_errs left e HR.out
  go_enter Tryz.func74, Tryz.ntmps74
  go_wp2_with fail
  refine (Take6_bad left e _ (by omega) HR).mono ?_
  rintro x w1 ⟨rfl, hb1⟩
  dsimp only [zeroE]
  have HC1 := Lib.hid (HC.out.low hb1)
  have HA41 := Lib.hid (block_below HA4a.out hb1)
  have HA51 := Lib.hid (block_below HA5a.out hb1)
  have HG1 := Lib.hid ((grown_below HBB.out).trans (grown_below (row := some p) hb1))
  have hrlen : ([] : List UInt8).length ≤ 1000000 := by simp
  clear hb1 HC HA4a HA5a HBB c0 c1 l0 l1
  obtain ⟨c0, c1, l0, l1⟩ := HC1.out.cells
  have b0 := block_cell HA51.out 0
  have b1 := block_cell HA51.out 1
  have b2 := block_cell HA51.out 2
  have b3 := block_cell HA51.out 3
  have b4 := block_cell HA51.out 4
  have b5 := block_cell HA51.out 5
  have b6 := block_cell HA51.out 6
  simp at b0 b1 b2 b3 b4 b5 b6
  have f0 := block_loose HA51.out 0
  have f1 := block_loose HA51.out 1
  have f2 := block_loose HA51.out 2
  have f3 := block_loose HA51.out 3
  have f4 := block_loose HA51.out 4
  have f5 := block_loose HA51.out 5
  have f6 := block_loose HA51.out 6
  go_upto_region 4 with (fail)
  have HA5 : Hid ((((((((((w1.setCell ⟨w.heap.size + 1, 0, none⟩ (.int .i64 0)).setCell ⟨w.heap.size + 1, 1, none⟩ (.int .i64 0)).setCell ⟨w.heap.size + 1, 2, none⟩ (.string ⟨#[]⟩)).setCell ⟨w.heap.size + 1, 3, none⟩ (.int .i64 0)).setCell ⟨w.heap.size + 1, 4, none⟩ (.int .i64 0)).setCell ⟨w.heap.size + 1, 5, none⟩ (.int .i64 0)).setCell ⟨w.heap.size + 1, 6, none⟩ (.slice none 0 0)).setCell ⟨p, 0, none⟩ (.string (B []))).setCell ⟨p, 1, none⟩ (.int .i64 (e : Int))).heap[w.heap.size + 1]? = some (.cells #[.int .i64 0, .int .i64 0, .string ⟨#[]⟩, .int .i64 0, .int .i64 0, .int .i64 0, .slice none 0 0] 53 (0, 0))) := Lib.hid (set_other (set_other (set_block (set_block (set_block (set_block (set_block (set_block (set_block (HA51.out) 0 (.int .i64 0)) 1 (.int .i64 0)) 2 (.string ⟨#[]⟩)) 3 (.int .i64 0)) 4 (.int .i64 0)) 5 (.int .i64 0)) 6 (.slice none 0 0)) (by omega) 0 _) (by omega) 1 _)
  have HA4 : Hid ((((((((((w1.setCell ⟨w.heap.size + 1, 0, none⟩ (.int .i64 0)).setCell ⟨w.heap.size + 1, 1, none⟩ (.int .i64 0)).setCell ⟨w.heap.size + 1, 2, none⟩ (.string ⟨#[]⟩)).setCell ⟨w.heap.size + 1, 3, none⟩ (.int .i64 0)).setCell ⟨w.heap.size + 1, 4, none⟩ (.int .i64 0)).setCell ⟨w.heap.size + 1, 5, none⟩ (.int .i64 0)).setCell ⟨w.heap.size + 1, 6, none⟩ (.slice none 0 0)).setCell ⟨p, 0, none⟩ (.string (B []))).setCell ⟨p, 1, none⟩ (.int .i64 (e : Int))).heap[w.heap.size]? = some (.cells #[.int .i64 0, .int .i64 0, .string ⟨#[]⟩, .int .i64 0, .int .i64 0, .int .i64 0, .slice none 0 0] 53 (0, 0))) := Lib.hid (set_other (set_other (set_other (set_other (set_other (set_other (set_other (set_other (set_other HA41.out (by omega) 0 _) (by omega) 1 _) (by omega) 2 _) (by omega) 3 _) (by omega) 4 _) (by omega) 5 _) (by omega) 6 _) (by omega) 0 _) (by omega) 1 _)
  have HRC : Hid (RC p [] e (((((((((w1.setCell ⟨w.heap.size + 1, 0, none⟩ (.int .i64 0)).setCell ⟨w.heap.size + 1, 1, none⟩ (.int .i64 0)).setCell ⟨w.heap.size + 1, 2, none⟩ (.string ⟨#[]⟩)).setCell ⟨w.heap.size + 1, 3, none⟩ (.int .i64 0)).setCell ⟨w.heap.size + 1, 4, none⟩ (.int .i64 0)).setCell ⟨w.heap.size + 1, 5, none⟩ (.int .i64 0)).setCell ⟨w.heap.size + 1, 6, none⟩ (.slice none 0 0)).setCell ⟨p, 0, none⟩ (.string (B []))).setCell ⟨p, 1, none⟩ (.int .i64 (e : Int)))) := Lib.hid (RC.set (((((((HC1.out.other (by omega) 0 _).other (by omega) 1 _).other (by omega) 2 _).other (by omega) 3 _).other (by omega) 4 _).other (by omega) 5 _).other (by omega) 6 _))
  have HG : Hid (w.grownBy (((((((((w1.setCell ⟨w.heap.size + 1, 0, none⟩ (.int .i64 0)).setCell ⟨w.heap.size + 1, 1, none⟩ (.int .i64 0)).setCell ⟨w.heap.size + 1, 2, none⟩ (.string ⟨#[]⟩)).setCell ⟨w.heap.size + 1, 3, none⟩ (.int .i64 0)).setCell ⟨w.heap.size + 1, 4, none⟩ (.int .i64 0)).setCell ⟨w.heap.size + 1, 5, none⟩ (.int .i64 0)).setCell ⟨w.heap.size + 1, 6, none⟩ (.slice none 0 0)).setCell ⟨p, 0, none⟩ (.string (B []))).setCell ⟨p, 1, none⟩ (.int .i64 (e : Int))) (some p)) := Lib.hid (grown_two (grown_box (grown_box (grown_box (grown_box (grown_box (grown_box (grown_box (HG1.out) (by omega) 0 _) (by omega) 1 _) (by omega) 2 _) (by omega) 3 _) (by omega) 4 _) (by omega) 5 _) (by omega) 6 _) _ _)
  generalize (((((((((w1.setCell ⟨w.heap.size + 1, 0, none⟩ (.int .i64 0)).setCell ⟨w.heap.size + 1, 1, none⟩ (.int .i64 0)).setCell ⟨w.heap.size + 1, 2, none⟩ (.string ⟨#[]⟩)).setCell ⟨w.heap.size + 1, 3, none⟩ (.int .i64 0)).setCell ⟨w.heap.size + 1, 4, none⟩ (.int .i64 0)).setCell ⟨w.heap.size + 1, 5, none⟩ (.int .i64 0)).setCell ⟨w.heap.size + 1, 6, none⟩ (.slice none 0 0)).setCell ⟨p, 0, none⟩ (.string (B []))).setCell ⟨p, 1, none⟩ (.int .i64 (e : Int))) = W9 at HA5 HA4 HRC HG ⊢
  clear HC1 HA41 HA51 HG1 c0 c1 l0 l1 b0 f0 b1 f1 b2 f2 b3 f3 b4 f4 b5 f5 b6 f6
  have x0 := block_cell HA5.out 0
  have x1 := block_cell HA5.out 1
  have x2 := block_cell HA5.out 2
  have x3 := block_cell HA5.out 3
  have x4 := block_cell HA5.out 4
  have x5 := block_cell HA5.out 5
  have x6 := block_cell HA5.out 6
  simp at x0 x1 x2 x3 x4 x5 x6
  have y0 := block_cell HA4.out 0
  have y1 := block_cell HA4.out 1
  have y2 := block_cell HA4.out 2
  have y3 := block_cell HA4.out 3
  have y4 := block_cell HA4.out 4
  have y5 := block_cell HA4.out 5
  have y6 := block_cell HA4.out 6
  simp at y0 y1 y2 y3 y4 y5 y6
  have m0 := block_loose HA4.out 0
  have m1 := block_loose HA4.out 1
  have m2 := block_loose HA4.out 2
  have m3 := block_loose HA4.out 3
  have m4 := block_loose HA4.out 4
  have m5 := block_loose HA4.out 5
  have m6 := block_loose HA4.out 6
  go_wp2
  have HK : Hid (((((((((W9.setCell ⟨w.heap.size, 0, none⟩ (.int .i64 0)).setCell ⟨w.heap.size, 1, none⟩ (.int .i64 0)).setCell ⟨w.heap.size, 2, none⟩ (.string ⟨#[]⟩)).setCell ⟨w.heap.size, 3, none⟩ (.int .i64 0)).setCell ⟨w.heap.size, 4, none⟩ (.int .i64 0)).setCell ⟨w.heap.size, 5, none⟩ (.int .i64 0)).setCell ⟨w.heap.size, 6, none⟩ (.slice none 0 0))).heap[w.heap.size]? = some (.cells #[.int .i64 0, .int .i64 0, .string ⟨#[]⟩, .int .i64 0, .int .i64 0, .int .i64 0, .slice none 0 0] 53 (0, 0))) := Lib.hid (set_block (set_block (set_block (set_block (set_block (set_block (set_block (HA4.out) 0 (.int .i64 0)) 1 (.int .i64 0)) 2 (.string ⟨#[]⟩)) 3 (.int .i64 0)) 4 (.int .i64 0)) 5 (.int .i64 0)) 6 (.slice none 0 0))
  have HF : Hid (RM p (.inr e) ((((((((W9.setCell ⟨w.heap.size, 0, none⟩ (.int .i64 0)).setCell ⟨w.heap.size, 1, none⟩ (.int .i64 0)).setCell ⟨w.heap.size, 2, none⟩ (.string ⟨#[]⟩)).setCell ⟨w.heap.size, 3, none⟩ (.int .i64 0)).setCell ⟨w.heap.size, 4, none⟩ (.int .i64 0)).setCell ⟨w.heap.size, 5, none⟩ (.int .i64 0)).setCell ⟨w.heap.size, 6, none⟩ (.slice none 0 0)))) := Lib.hid ⟨[], e, by exact (((((((HRC.out.other (by omega) 0 _).other (by omega) 1 _).other (by omega) 2 _).other (by omega) 3 _).other (by omega) 4 _).other (by omega) 5 _).other (by omega) 6 _), by first | exact hrlen | simp | omega, by first | exact ⟨rfl, rfl⟩ | exact ⟨rfl, hpos⟩⟩
  have HGF : Hid (w.grownBy ((((((((W9.setCell ⟨w.heap.size, 0, none⟩ (.int .i64 0)).setCell ⟨w.heap.size, 1, none⟩ (.int .i64 0)).setCell ⟨w.heap.size, 2, none⟩ (.string ⟨#[]⟩)).setCell ⟨w.heap.size, 3, none⟩ (.int .i64 0)).setCell ⟨w.heap.size, 4, none⟩ (.int .i64 0)).setCell ⟨w.heap.size, 5, none⟩ (.int .i64 0)).setCell ⟨w.heap.size, 6, none⟩ (.slice none 0 0))) (some p)) := Lib.hid (grown_box (grown_box (grown_box (grown_box (grown_box (grown_box (grown_box (HG.out) (Nat.le_refl _) 0 _) (Nat.le_refl _) 1 _) (Nat.le_refl _) 2 _) (Nat.le_refl _) 3 _) (Nat.le_refl _) 4 _) (Nat.le_refl _) 5 _) (Nat.le_refl _) 6 _)
  generalize (((((((W9.setCell ⟨w.heap.size, 0, none⟩ (.int .i64 0)).setCell ⟨w.heap.size, 1, none⟩ (.int .i64 0)).setCell ⟨w.heap.size, 2, none⟩ (.string ⟨#[]⟩)).setCell ⟨w.heap.size, 3, none⟩ (.int .i64 0)).setCell ⟨w.heap.size, 4, none⟩ (.int .i64 0)).setCell ⟨w.heap.size, 5, none⟩ (.int .i64 0)).setCell ⟨w.heap.size, 6, none⟩ (.slice none 0 0)) = w9 at HK HF HGF ⊢
  have k0 := block_cell HK.out 0
  have k1 := block_cell HK.out 1
  have k2 := block_cell HK.out 2
  have k3 := block_cell HK.out 3
  have k4 := block_cell HK.out 4
  have k5 := block_cell HK.out 5
  have k6 := block_cell HK.out 6
  simp at k0 k1 k2 k3 k4 k5 k6
  exact bodyPost_ret (v := .agg #[.int .i64 0, .int .i64 0, .string ⟨#[]⟩, .int .i64 0, .int .i64 0, .int .i64 0, .slice none 0 0]) (by simp [results, Tryz.results74, go_sem, k0, k1, k2, k3, k4, k5, k6]) rfl ⟨⟨⟨0, 0, ⟨[], 0, 0, 0, []⟩⟩, _, rfl, World.ownsRow_nil _ _ _ _, (fun a r e => by cases e)⟩, HF.out, HGF.out⟩
theorem rm_entry0 {p : Nat} {o : Rs} {w : World} (h : RM p o w) (res : K.Rd R.En) (H : Hid (run R.takeEn o = res)) :
    Calls Tryz.prog 74 #[rdP p, .func (.func 75) #[] #[]] w fun x w' => (∃ (z : R.En) (v : Value), x = .returned (enV z v) ∧ w'.ownsRow w.heap.size 55 2 v z.b.events.length (evCells z.b.events) ∧ (∀ a r, res = Sum.inl (a, r) → z = a)) ∧ RM p (rest res) w' ∧ w.grownBy w' (some p) := by
  obtain ⟨left, err, hc, hl, ho⟩ := h
  match o, ho with
  | .inr e, ho => exact rm_entry_err hc hl (by rw [ho.1]; exact ho.2) res (by rw [ho.1]; exact H.out.symm)
  | .inl l, ho =>
    obtain ⟨h0, rfl⟩ := ho
    have hres : R.takeEn left = res := H.out
    rcases res with ⟨a, r⟩ | e
    · exact rm_entry_ok hc hl h0 a r (Lib.hid hres) _ rfl
    · exact rm_entry_bad hc hl h0 e (Lib.hid hres) _ rfl
end Go.Proofs.YtljcgpdjhjkciaaGreat
namespace Go.Proofs.YtljcgpdjhjkciaaGreat
open Go.RowKit
attribute [local go_sem] ext_Bd ext_Bl ext_Bt toList_B add_B size_B get_Bt

set_option maxHeartbeats 4000000 in
set_option maxRecDepth 100000 in
theorem rm_event {p : Nat} {o : Rs} {w : World} (h : RM p o w) (res : K.Rd E.Ev) (H : Hid (run E.takeEv o = res)) :
    Calls Tryz.prog 60 #[rdP p] w fun x w' => (∃ z : E.Ev, x = .returned (evV z) ∧ (∀ a r, res = Sum.inl (a, r) → z = a)) ∧ RM p (rest res) w' ∧ w.grownBy w' (some p) := by
  have hlt := h.lt
  have HA0 : Hid ((w.alloc (.cells #[.string ⟨#[]⟩, .string ⟨#[]⟩] 55)).heap[w.heap.size]? = some (.cells #[.string ⟨#[]⟩, .string ⟨#[]⟩] 55 (0, 0))) := Lib.hid (new_at rfl)
  have HH := Lib.hid (rm_event0 (h.new (.cells #[.string ⟨#[]⟩, .string ⟨#[]⟩] 55)) res H)
  clear h H
  go_enter Tryz.func60, Tryz.ntmps60
  go_wp2_with fail
  refine HH.out.mono ?_
  rintro x w1 ⟨⟨z, rfl, hz⟩, h1, hg1⟩
  have HZ := Lib.hid hz
  clear hz
  obtain ⟨zk, zd⟩ := z
  dsimp only [evV]
  have HM := Lib.hid h1
  have HA := Lib.hid (block_kept HA0.out hg1 (by omega))
  have HGW : Hid (w.grownBy w1 (some p)) := Lib.hid ((World.grownBy_alloc w _ _).trans hg1)
  clear h1 hg1 HA0 HH
  have a0 := block_cell HA.out 0
  have a1 := block_cell HA.out 1
  simp at a0 a1
  have l0 := block_loose HA.out 0
  have l1 := block_loose HA.out 1
  go_wp2
  have HK : Hid ((((w1.setCell ⟨w.heap.size, 0, none⟩ (.string (B zk))).setCell ⟨w.heap.size, 1, none⟩ (.string (B zd)))).heap[w.heap.size]? = some (.cells #[.string (B zk), .string (B zd)] 55 (0, 0))) := Lib.hid (set_block (set_block (HA.out) 0 (.string (B zk))) 1 (.string (B zd)))
  have HF : Hid (RM p (rest res) (((w1.setCell ⟨w.heap.size, 0, none⟩ (.string (B zk))).setCell ⟨w.heap.size, 1, none⟩ (.string (B zd))))) := Lib.hid (by
    obtain ⟨left, err, hc, h2⟩ := HM.out
    exact ⟨left, err, ((hc.other (by omega) 0 _).other (by omega) 1 _), h2⟩)
  have HG : Hid (w.grownBy (((w1.setCell ⟨w.heap.size, 0, none⟩ (.string (B zk))).setCell ⟨w.heap.size, 1, none⟩ (.string (B zd)))) (some p)) := Lib.hid (grown_box (grown_box (HGW.out) (Nat.le_refl _) 0 _) (Nat.le_refl _) 1 _)
  generalize ((w1.setCell ⟨w.heap.size, 0, none⟩ (.string (B zk))).setCell ⟨w.heap.size, 1, none⟩ (.string (B zd))) = w9 at HK HF HG ⊢
  have k0 := block_cell HK.out 0
  have k1 := block_cell HK.out 1
  simp at k0 k1
  exact bodyPost_ret (v := .agg #[.string (B zk), .string (B zd)]) (by simp [results, Tryz.results60, go_sem, k0, k1]) rfl ⟨⟨(zk, zd), rfl, HZ.out⟩, HF.out, HG.out⟩

set_option maxHeartbeats 4000000 in
set_option maxRecDepth 100000 in
theorem rm_entry {p : Nat} {o : Rs} {w : World} (h : RM p o w) (res : K.Rd R.En) (H : Hid (run R.takeEn o = res)) :
    Calls Tryz.prog 53 #[rdP p] w fun x w' => (∃ (z : R.En) (v : Value), x = .returned (enV z v) ∧ w'.ownsRow w.heap.size 55 2 v z.b.events.length (evCells z.b.events) ∧ (∀ a r, res = Sum.inl (a, r) → z = a)) ∧ RM p (rest res) w' ∧ w.grownBy w' (some p) := by
  have hlt := h.lt
  have HA0 : Hid ((w.alloc (.cells #[.int .i64 0, .int .i64 0, .string ⟨#[]⟩, .int .i64 0, .int .i64 0, .int .i64 0, .slice none 0 0] 53)).heap[w.heap.size]? = some (.cells #[.int .i64 0, .int .i64 0, .string ⟨#[]⟩, .int .i64 0, .int .i64 0, .int .i64 0, .slice none 0 0] 53 (0, 0))) := Lib.hid (new_at rfl)
  have HH := Lib.hid (rm_entry0 (h.new (.cells #[.int .i64 0, .int .i64 0, .string ⟨#[]⟩, .int .i64 0, .int .i64 0, .int .i64 0, .slice none 0 0] 53)) res H)
  clear h H
  go_enter Tryz.func53, Tryz.ntmps53
  go_wp2_with fail
  refine HH.out.mono ?_
  rintro x w1 ⟨⟨z, u, rfl, how, hz⟩, h1, hg1⟩
  have HZ := Lib.hid hz
  have HOW := Lib.hid (own_base5 (b := w.heap.size) how (by simp only [World.size_alloc]; omega))
  obtain ⟨ua, uc, rfl, -⟩ := own_slice how
  clear hz how
  obtain ⟨pos, ep, ⟨st, ex, se, sq, evs⟩⟩ := z
  dsimp only [enV]
  have HM := Lib.hid h1
  have HA := Lib.hid (block_kept HA0.out hg1 (by omega))
  have HGW : Hid (w.grownBy w1 (some p)) := Lib.hid ((World.grownBy_alloc w _ _).trans hg1)
  clear h1 hg1 HA0 HH
  have a0 := block_cell HA.out 0
  have a1 := block_cell HA.out 1
  have a2 := block_cell HA.out 2
  have a3 := block_cell HA.out 3
  have a4 := block_cell HA.out 4
  have a5 := block_cell HA.out 5
  have a6 := block_cell HA.out 6
  simp at a0 a1 a2 a3 a4 a5 a6
  have l0 := block_loose HA.out 0
  have l1 := block_loose HA.out 1
  have l2 := block_loose HA.out 2
  have l3 := block_loose HA.out 3
  have l4 := block_loose HA.out 4
  have l5 := block_loose HA.out 5
  have l6 := block_loose HA.out 6
  go_wp2
  have HK : Hid (((((((((w1.setCell ⟨w.heap.size, 0, none⟩ (.int .i64 pos)).setCell ⟨w.heap.size, 1, none⟩ (.int .i64 ep)).setCell ⟨w.heap.size, 2, none⟩ (.string (B st))).setCell ⟨w.heap.size, 3, none⟩ (.int .i64 ex)).setCell ⟨w.heap.size, 4, none⟩ (.int .i64 se)).setCell ⟨w.heap.size, 5, none⟩ (.int .i64 sq)).setCell ⟨w.heap.size, 6, none⟩ (.slice ua evs.length uc))).heap[w.heap.size]? = some (.cells #[.int .i64 pos, .int .i64 ep, .string (B st), .int .i64 ex, .int .i64 se, .int .i64 sq, .slice ua evs.length uc] 53 (0, 0))) := Lib.hid (set_block (set_block (set_block (set_block (set_block (set_block (set_block (HA.out) 0 (.int .i64 pos)) 1 (.int .i64 ep)) 2 (.string (B st))) 3 (.int .i64 ex)) 4 (.int .i64 se)) 5 (.int .i64 sq)) 6 (.slice ua evs.length uc))
  have HF : Hid (RM p (rest res) ((((((((w1.setCell ⟨w.heap.size, 0, none⟩ (.int .i64 pos)).setCell ⟨w.heap.size, 1, none⟩ (.int .i64 ep)).setCell ⟨w.heap.size, 2, none⟩ (.string (B st))).setCell ⟨w.heap.size, 3, none⟩ (.int .i64 ex)).setCell ⟨w.heap.size, 4, none⟩ (.int .i64 se)).setCell ⟨w.heap.size, 5, none⟩ (.int .i64 sq)).setCell ⟨w.heap.size, 6, none⟩ (.slice ua evs.length uc)))) := Lib.hid (by
    obtain ⟨left, err, hc, h2⟩ := HM.out
    exact ⟨left, err, (((((((hc.other (by omega) 0 _).other (by omega) 1 _).other (by omega) 2 _).other (by omega) 3 _).other (by omega) 4 _).other (by omega) 5 _).other (by omega) 6 _), h2⟩)
  have HG : Hid (w.grownBy ((((((((w1.setCell ⟨w.heap.size, 0, none⟩ (.int .i64 pos)).setCell ⟨w.heap.size, 1, none⟩ (.int .i64 ep)).setCell ⟨w.heap.size, 2, none⟩ (.string (B st))).setCell ⟨w.heap.size, 3, none⟩ (.int .i64 ex)).setCell ⟨w.heap.size, 4, none⟩ (.int .i64 se)).setCell ⟨w.heap.size, 5, none⟩ (.int .i64 sq)).setCell ⟨w.heap.size, 6, none⟩ (.slice ua evs.length uc))) (some p)) := Lib.hid (grown_box (grown_box (grown_box (grown_box (grown_box (grown_box (grown_box (HGW.out) (Nat.le_refl _) 0 _) (Nat.le_refl _) 1 _) (Nat.le_refl _) 2 _) (Nat.le_refl _) 3 _) (Nat.le_refl _) 4 _) (Nat.le_refl _) 5 _) (Nat.le_refl _) 6 _)
  have ho0 := own_other HOW.out HA.out (by decide) 0 (.int .i64 pos)
  have hs0 := set_block HA.out 0 (.int .i64 pos)
  have ho1 := own_other ho0 hs0 (by decide) 1 (.int .i64 ep)
  have hs1 := set_block hs0 1 (.int .i64 ep)
  have ho2 := own_other ho1 hs1 (by decide) 2 (.string (B st))
  have hs2 := set_block hs1 2 (.string (B st))
  have ho3 := own_other ho2 hs2 (by decide) 3 (.int .i64 ex)
  have hs3 := set_block hs2 3 (.int .i64 ex)
  have ho4 := own_other ho3 hs3 (by decide) 4 (.int .i64 se)
  have hs4 := set_block hs3 4 (.int .i64 se)
  have ho5 := own_other ho4 hs4 (by decide) 5 (.int .i64 sq)
  have hs5 := set_block hs4 5 (.int .i64 sq)
  have ho6 := own_other ho5 hs5 (by decide) 6 (.slice ua evs.length uc)
  have hs6 := set_block hs5 6 (.slice ua evs.length uc)
  have HOF := Lib.hid ho6
  clear ho0 hs0 ho1 hs1 ho2 hs2 ho3 hs3 ho4 hs4 ho5 hs5 ho6 hs6
  generalize (((((((w1.setCell ⟨w.heap.size, 0, none⟩ (.int .i64 pos)).setCell ⟨w.heap.size, 1, none⟩ (.int .i64 ep)).setCell ⟨w.heap.size, 2, none⟩ (.string (B st))).setCell ⟨w.heap.size, 3, none⟩ (.int .i64 ex)).setCell ⟨w.heap.size, 4, none⟩ (.int .i64 se)).setCell ⟨w.heap.size, 5, none⟩ (.int .i64 sq)).setCell ⟨w.heap.size, 6, none⟩ (.slice ua evs.length uc)) = w9 at HK HF HG HOF ⊢
  have k0 := block_cell HK.out 0
  have k1 := block_cell HK.out 1
  have k2 := block_cell HK.out 2
  have k3 := block_cell HK.out 3
  have k4 := block_cell HK.out 4
  have k5 := block_cell HK.out 5
  have k6 := block_cell HK.out 6
  simp at k0 k1 k2 k3 k4 k5 k6
  exact bodyPost_ret (v := .agg #[.int .i64 pos, .int .i64 ep, .string (B st), .int .i64 ex, .int .i64 se, .int .i64 sq, .slice ua evs.length uc]) (by simp [results, Tryz.results53, go_sem, k0, k1, k2, k3, k4, k5, k6]) rfl ⟨⟨⟨pos, ep, ⟨st, ex, se, sq, evs⟩⟩, _, rfl, HOF.out, HZ.out⟩, HF.out, HG.out⟩

set_option maxHeartbeats 4000000 in
set_option maxRecDepth 100000 in
theorem rm_outcome {p : Nat} {o : Rs} {w : World} (h : RM p o w) (res1 res2 res3 res4 : K.Rd Int) (H1 : Hid (run M.takeI o = res1)) (H2 : Hid (run M.takeI (rest res1) = res2)) (H3 : Hid (run M.takeI (rest res2) = res3)) (H4 : Hid (run M.takeI (rest res3) = res4)) :
    Calls Tryz.prog 58 #[rdP p] w fun x w' => (∃ z1 z2 z3 z4 : Int, x = .returned (.agg #[.int .i64 z1, .int .i64 z2, .int .i64 z3, .int .i64 z4]) ∧ (∀ a r, res1 = Sum.inl (a, r) → z1 = a) ∧ (∀ a r, res2 = Sum.inl (a, r) → z2 = a) ∧ (∀ a r, res3 = Sum.inl (a, r) → z3 = a) ∧ (∀ a r, res4 = Sum.inl (a, r) → z4 = a)) ∧ RM p (rest res4) w' ∧ w.grownBy w' (some p) := by
  have hlt := h.lt
  have HA0 : Hid ((w.alloc (.cells #[.int .i64 0, .int .i64 0, .int .i64 0, .int .i64 0] 79)).heap[w.heap.size]? = some (.cells #[.int .i64 0, .int .i64 0, .int .i64 0, .int .i64 0] 79 (0, 0))) := Lib.hid (new_at rfl)
  have HM0 := Lib.hid (h.new (.cells #[.int .i64 0, .int .i64 0, .int .i64 0, .int .i64 0] 79))
  have HG0 : Hid ((w.alloc (.cells #[.int .i64 0, .int .i64 0, .int .i64 0, .int .i64 0] 79)).grownBy (w.alloc (.cells #[.int .i64 0, .int .i64 0, .int .i64 0, .int .i64 0] 79)) (some p)) := Lib.hid (grown_refl _ _)
  clear h
  go_enter Tryz.func58, Tryz.ntmps58
  go_wp2_with fail
  refine (rm_number HM0.out res1 H1).mono ?_
  rintro x w1 ⟨⟨z1, rfl, hz⟩, h1, hg1⟩
  have HZ1 := Lib.hid hz
  have HM1 := Lib.hid h1
  have HG1 := Lib.hid (HG0.out.trans hg1)
  clear hz h1 hg1 HM0 HG0
  go_wp2_with fail
  refine (rm_number HM1.out res2 H2).mono ?_
  rintro x w2 ⟨⟨z2, rfl, hz⟩, h1, hg1⟩
  have HZ2 := Lib.hid hz
  have HM2 := Lib.hid h1
  have HG2 := Lib.hid (HG1.out.trans hg1)
  clear hz h1 hg1 HM1 HG1
  go_wp2_with fail
  refine (rm_number HM2.out res3 H3).mono ?_
  rintro x w3 ⟨⟨z3, rfl, hz⟩, h1, hg1⟩
  have HZ3 := Lib.hid hz
  have HM3 := Lib.hid h1
  have HG3 := Lib.hid (HG2.out.trans hg1)
  clear hz h1 hg1 HM2 HG2
  go_wp2_with fail
  refine (rm_number HM3.out res4 H4).mono ?_
  rintro x w4 ⟨⟨z4, rfl, hz⟩, h1, hg1⟩
  have HZ4 := Lib.hid hz
  have HM4 := Lib.hid h1
  have HG4 := Lib.hid (HG3.out.trans hg1)
  clear hz h1 hg1 HM3 HG3
  have HA := Lib.hid (block_kept HA0.out HG4.out (by omega))
  have HGW : Hid (w.grownBy w4 (some p)) := Lib.hid ((World.grownBy_alloc w _ _).trans HG4.out)
  clear HA0 HG4
  have a0 := block_cell HA.out 0
  have a1 := block_cell HA.out 1
  have a2 := block_cell HA.out 2
  have a3 := block_cell HA.out 3
  simp at a0 a1 a2 a3
  have l0 := block_loose HA.out 0
  have l1 := block_loose HA.out 1
  have l2 := block_loose HA.out 2
  have l3 := block_loose HA.out 3
  go_wp2
  have HK : Hid ((((((w4.setCell ⟨w.heap.size, 0, none⟩ (.int .i64 z1)).setCell ⟨w.heap.size, 1, none⟩ (.int .i64 z2)).setCell ⟨w.heap.size, 2, none⟩ (.int .i64 z3)).setCell ⟨w.heap.size, 3, none⟩ (.int .i64 z4))).heap[w.heap.size]? = some (.cells #[.int .i64 z1, .int .i64 z2, .int .i64 z3, .int .i64 z4] 79 (0, 0))) := Lib.hid (set_block (set_block (set_block (set_block (HA.out) 0 (.int .i64 z1)) 1 (.int .i64 z2)) 2 (.int .i64 z3)) 3 (.int .i64 z4))
  have HF : Hid (RM p (rest res4) (((((w4.setCell ⟨w.heap.size, 0, none⟩ (.int .i64 z1)).setCell ⟨w.heap.size, 1, none⟩ (.int .i64 z2)).setCell ⟨w.heap.size, 2, none⟩ (.int .i64 z3)).setCell ⟨w.heap.size, 3, none⟩ (.int .i64 z4)))) := Lib.hid (by
    obtain ⟨left, err, hc, h2⟩ := HM4.out
    exact ⟨left, err, ((((hc.other (by omega) 0 _).other (by omega) 1 _).other (by omega) 2 _).other (by omega) 3 _), h2⟩)
  have HG : Hid (w.grownBy (((((w4.setCell ⟨w.heap.size, 0, none⟩ (.int .i64 z1)).setCell ⟨w.heap.size, 1, none⟩ (.int .i64 z2)).setCell ⟨w.heap.size, 2, none⟩ (.int .i64 z3)).setCell ⟨w.heap.size, 3, none⟩ (.int .i64 z4))) (some p)) := Lib.hid (grown_box (grown_box (grown_box (grown_box (HGW.out) (Nat.le_refl _) 0 _) (Nat.le_refl _) 1 _) (Nat.le_refl _) 2 _) (Nat.le_refl _) 3 _)
  generalize ((((w4.setCell ⟨w.heap.size, 0, none⟩ (.int .i64 z1)).setCell ⟨w.heap.size, 1, none⟩ (.int .i64 z2)).setCell ⟨w.heap.size, 2, none⟩ (.int .i64 z3)).setCell ⟨w.heap.size, 3, none⟩ (.int .i64 z4)) = w9 at HK HF HG ⊢
  have k0 := block_cell HK.out 0
  have k1 := block_cell HK.out 1
  have k2 := block_cell HK.out 2
  have k3 := block_cell HK.out 3
  simp at k0 k1 k2 k3
  exact bodyPost_ret (v := .agg #[.int .i64 z1, .int .i64 z2, .int .i64 z3, .int .i64 z4]) (by simp [results, Tryz.results58, go_sem, k0, k1, k2, k3]) rfl ⟨⟨z1, z2, z3, z4, rfl, HZ1.out, HZ2.out, HZ3.out, HZ4.out⟩, HF.out, HG.out⟩
end Go.Proofs.YtljcgpdjhjkciaaGreat
namespace Go.Proofs.YtljcgpdjhjkciaaGreat
open Go.RowKit
attribute [local go_sem] ext_Bd ext_Bl ext_Bt toList_B add_B size_B get_Bt

/-- Where a list has come to: xs are taken, j are left to be taken, or there was an error. -/
def Come {α : Type} (take : List UInt8 → K.Rd α) (all : K.Rd (List α)) (xs : List α) (j : Nat) (o : Rs) : Prop :=
  match o with
  | .inl r => all = K.bind (K.takeN take j r) fun es q => Sum.inl (xs ++ es, q)
  | .inr e => all = Sum.inr e
theorem Come.start {α : Type} {take : List UInt8 → K.Rd α} {o : Rs} {n most : Nat} {res0 : K.Rd Nat} (H0 : run N.takeL o = res0) (hn : ∀ a r, res0 = Sum.inl (a, r) → n = a) (hle : ¬ most < n) : Come take (run (M.takeC most take) o) [] n (rest res0) := by
  have e : run (M.takeC most take) o = K.bind (run N.takeL o) fun n r => if most < n then Sum.inr 4 else K.takeN take n r := by cases o <;> rfl
  rw [e, H0]
  rcases res0 with ⟨a, r⟩ | c
  · obtain rfl := hn a r rfl
    show (if most < n then Sum.inr 4 else K.takeN take n r) = K.bind (K.takeN take n r) _
    rw [if_neg hle]
    rcases K.cases (K.takeN take n r) with ⟨e, h⟩ | ⟨a, q, h⟩ <;> rw [h] <;> rfl
  · rfl
theorem Come.long {α : Type} {take : List UInt8 → K.Rd α} {o : Rs} {n most : Nat} {res0 : K.Rd Nat} (H0 : run N.takeL o = res0) (hn : ∀ a r, res0 = Sum.inl (a, r) → n = a) (hn0 : ∀ e, res0 = Sum.inr e → n = 0) (hlt : most < n) : run (M.takeC most take) o = Sum.inr 4 := by
  have e : run (M.takeC most take) o = K.bind (run N.takeL o) fun n r => if most < n then Sum.inr 4 else K.takeN take n r := by cases o <;> rfl
  rw [e, H0]
  rcases res0 with ⟨a, r⟩ | c
  · obtain rfl := hn a r rfl
    exact if_pos hlt
  · have := hn0 c rfl
    omega
theorem Come.step {α : Type} {take : List UInt8 → K.Rd α} {all : K.Rd (List α)} {xs : List α} {j : Nat} {o : Rs} {res : K.Rd α} {x : α} (h : Come take all xs (j + 1) o) (hr : run take o = res) (hx : ∀ a r, res = Sum.inl (a, r) → x = a) : Come take all (xs ++ [x]) j (rest res) := by
  match o, h with
  | .inr e, h =>
    have e2 : (Sum.inr e : K.Rd α) = res := hr
    subst e2
    exact h
  | .inl l, h =>
    have e2 : take l = res := hr
    have h2 : all = K.bind (K.bind (take l) fun a r => K.bind (K.takeN take j r) fun es q => Sum.inl (a :: es, q)) fun es q => Sum.inl (xs ++ es, q) := h
    rw [e2] at h2
    rcases res with ⟨a, r⟩ | c
    · obtain rfl := hx a r rfl
      show all = K.bind (K.takeN take j r) fun es q => Sum.inl ((xs ++ [x]) ++ es, q)
      rw [h2]
      show K.bind (K.bind (K.takeN take j r) _) _ = _
      rcases K.cases (K.takeN take j r) with ⟨c, h⟩ | ⟨a, q, h⟩
      · rw [h]; rfl
      · rw [h]
        show Sum.inl (xs ++ (x :: a), q) = Sum.inl ((xs ++ [x]) ++ a, q)
        rw [List.append_assoc]; rfl
    · exact h2
theorem Come.done {α : Type} {take : List UInt8 → K.Rd α} {all : K.Rd (List α)} {xs : List α} {o : Rs} (h : Come take all xs 0 o) : rest all = o ∧ ∀ l r, all = Sum.inl (l, r) → xs = l := by
  match o, h with
  | .inr e, h =>
    have h2 : all = Sum.inr e := h
    subst h2
    exact ⟨rfl, fun l r e => by cases e⟩
  | .inl q, h =>
    have h2 : all = Sum.inl (xs ++ [], q) := h
    subst h2
    exact ⟨rfl, fun l r e => by cases e; simp⟩
theorem own_differ {w : World} {b1 b2 s1 s2 n1 n2 : Nat} {t1 t2 : TypeId} {v1 v2 : Value} {x1 x2 : List Value} (h1 : w.ownsRow b1 t1 s1 v1 n1 x1) (h2 : w.ownsRow b2 t2 s2 v2 n2 x2) (ht : t1 ≠ t2) : v1.ownBlock = none ∨ v1.ownBlock ≠ v2.ownBlock := by
  rcases h1.2 with ⟨rfl, _⟩ | ⟨g, cap, cur, rfl, _, hg, _⟩
  · exact .inl rfl
  · refine .inr fun e => ?_
    rcases h2.2 with ⟨rfl, _⟩ | ⟨g2, cap2, cur2, rfl, _, hg2, _⟩
    · cases e
    · cases e
      rw [hg] at hg2
      cases hg2
      exact ht rfl
def intC (zs : List Int) : List Value := zs.map (Value.int .i64)
theorem intC_len (zs : List Int) : (intC zs).length = zs.length := by simp [intC]
theorem Tryz.infoIntL : (Tryz.prog.info? 3).map (fun i => (i.zero, i.size, i.bytes)) = some (some (.int .i64 0), 1, 8) := by kernel_rfl
theorem readsI_own {w : World} {base : Nat} {v : Value} {zs : List Int} (h : w.ownsRow base 3 1 v zs.length (intC zs)) (hz : ∀ z ∈ zs, i64B z) : ReadsI w v zs := by
  rcases h.2 with ⟨rfl, h0⟩ | ⟨g, cap, cur, rfl, _, _, hc, _⟩
  · exact ⟨none, 0, by rw [h0], fun i hi => by omega⟩
  · refine ⟨some ⟨g, 0, none⟩, cap, rfl, fun i hi => ⟨hz _ (List.getElem_mem hi), g, 0, rfl, ?_⟩⟩
    rw [Nat.zero_add, h.cellAt i (by omega)]
    simp [intC, hi]
/-- Lists in rows of the call's own. -/
abbrev RowX (t : TypeId) (size base : Nat) (v : Value) (n : Nat) (cells : List Value) (w : World) : Prop := w.ownsRow base t size v n cells

set_option maxHeartbeats 4000000 in
set_option maxRecDepth 100000 in
theorem rm_list_int {p : Nat} {o : Rs} {w : World} (most : Nat) (h : RM p o w) (res : K.Rd (List Int)) (H : Hid (run (M.takeC most M.takeI) o = res)) (hm : most ≤ 100) :
    Calls Tryz.prog 73 #[rdP p, .int .i64 most, .func (.func 48) #[rdP p] #[]] w fun x w' => (∃ (v : Value) (xs : List Int), x = .returned v ∧ w'.ownsRow w.heap.size 3 1 v xs.length (intC xs) ∧ (∀ l r, res = Sum.inl (l, r) → xs = l)) ∧ RM p (rest res) w' ∧ w.grownBy w' (some p) := by
  obtain ⟨i0, hi, hz0, hz1, hz2⟩ := info_parts Tryz.infoIntL
  have hplt := h.lt
  obtain ⟨res0, H0⟩ : ∃ x, Hid (run N.takeL o = x) := ⟨_, Lib.hid rfl⟩
  have HH := Lib.hid (rm_number0 h res0 H0)
  clear h
  go_enter Tryz.func73, Tryz.ntmps73
  go_wp2_with fail
  refine HH.out.mono ?_
  rintro x w1 ⟨⟨n, rfl, hn1, hn2⟩, h1, hg1⟩
  have HN1 := Lib.hid hn1
  have HN2 := Lib.hid hn2
  have HG1 := Lib.hid hg1
  clear hn1 hn2 hg1 HH
  by_cases hlong : most < n
  · have HL := Lib.hid (show res = Sum.inr 4 by rw [← H.out]; exact Come.long H0.out HN1.out HN2.out hlong)
    have hgt : (most : Int) < (n : Int) := by omega
    obtain ⟨left, err, hc, hl, ho⟩ := h1
    obtain ⟨c0, c1, l0, l1⟩ := hc.cells
    have HF : Hid (RM p (.inr 4) (w1.setCell ⟨p, 1, none⟩ (.int .i64 4))) := Lib.hid ⟨left, 4, set_block hc 1 _, hl, rfl, by omega⟩
    clear hc ho
    go_wp2
    go_ret
    rw [HL.out]
    exact ⟨⟨_, [], rfl, World.ownsRow_nil _ _ _ _, (fun l r e => by cases e)⟩, HF.out, grown_set HG1.out 1 _⟩
  · have HC0 : Hid (Come M.takeI res (([] : List Int)) n (rest res0)) := Lib.hid (by rw [← H.out]; exact Come.start H0.out HN1.out hlong)
    have hgt : ¬ (most : Int) < (n : Int) := by omega
    have HM1 := Lib.hid h1
    clear h1 HN1 HN2 H0 H
    go_wp2
    go_loopw [8, 18] (fun u i wr => ∃ (xs : List Int) (ok : Rs), i = .int .i64 xs.length ∧ xs.length ≤ n ∧ RM p ok wr ∧ wr.ownsRow w.heap.size 3 1 u xs.length (intC xs) ∧ w.grownBy wr (some p) ∧ Come M.takeI res (xs) (n - xs.length) ok) (fun _ i _ => n - (intOf i).toNat)
    case atStart => exact ⟨[], _, rfl, Nat.zero_le _, HM1.out, World.ownsRow_nil _ _ _ _, HG1.out, HC0.out⟩
    case round =>
      obtain ⟨xs, ok, rfl, hk, hrm, hown, hgw, hcm⟩ := hrel
      have HRM := Lib.hid hrm
      have HOWN := Lib.hid hown
      have HGW := Lib.hid hgw
      have HCM := Lib.hid hcm
      obtain ⟨ua, uc, hu, -⟩ := own_slice hown
      clear hrm hown hgw hcm HC0 HM1 HG1
      by_cases hlt : xs.length < n
      · have hk1 : (xs.length : Int) < (n : Int) := by omega
        obtain ⟨res1, H1⟩ : ∃ x, Hid (run M.takeI ok = x) := ⟨_, Lib.hid rfl⟩
        have HNX : Hid (∀ z, (∀ a r, res1 = Sum.inl (a, r) → z = a) → Come M.takeI res (xs ++ [z]) (n - (xs.length + 1)) (rest res1)) := Lib.hid fun z hz => Come.step (by have := HCM.out; rwa [show n - xs.length = n - (xs.length + 1) + 1 by omega] at this) H1.out hz
        subst hu
        go_wp2_with fail
        refine (rm_number HRM.out res1 H1).mono ?_
        rintro x w2 ⟨⟨z, rfl, hz⟩, h2, hg2⟩
        have HCN := Lib.hid (HNX.out z hz)
        clear hz
        have hown2 := HOWN.out.kept hg2 (.inr (own_ne HOWN.out hplt).symm)
        have HOWN2 := Lib.hid hown2
        have HG2 := Lib.hid (HGW.out.trans hg2)
        have HM2 := Lib.hid h2
        have hsz2 := HG2.out.size
        have hne2 := own_ne hown2 hplt
        clear h2 hg2 HCM H1
        go_wp2_with (at_builtin; go_loud (refine wpList_append_own _ rfl _ _ 23 rfl w.heap.size 3 i0 _ 1 8 Tryz.underlying23 hi hz0 hz1 hz2 rfl (by decide) _ _ _ rfl (hown2.alloc _) ⟨w2.heap.size, 0, none⟩ 1 1 [.int .i64 z] rfl rfl (World.news_of_block (cs := #[.int .i64 z]) (t := 3) (fr := (0, 0)) (heap_alloc_new w2 _)) (by simp [Value.oneCell']) (by unfold maxLen; omega) (by omega) (by simp; omega) ?_; intro v' w3 hown3 hgrow3 _))
        have HM3 := Lib.hid ((HM2.out.new (.cells #[.int .i64 z] 3)).kept hgrow3 hne2)
        have HG3 : Hid (w.grownBy w3 (some p)) := Lib.hid ((HG2.out.trans (World.grownBy_alloc w2 (.cells #[.int .i64 z] 3) _)).andThen hgrow3 fun b hb => .inl (HOWN2.out.lt b hb).1)
        have HOWN3 : Hid (w3.ownsRow w.heap.size 3 1 v' (xs ++ [z]).length (intC (xs ++ [z]))) := Lib.hid (by rw [show intC (xs ++ [z]) = intC xs ++ [.int .i64 z] by simp [intC], List.length_append]; exact hown3)
        clear hown3 hgrow3 hown2 hne2
        go_wp2
        go_roundw
        case rel => exact ⟨xs ++ [z], _, by rw [List.length_append]; go_num, by rw [List.length_append]; simp; omega, HM3.out, HOWN3.out, HG3.out, by rw [List.length_append]; exact HCN.out⟩
        case measure => simp [intOf]; omega
      · have hkn : n - xs.length = 0 := by omega
        have hcd := HCM.out
        rw [hkn] at hcd
        have HD := Lib.hid hcd.done
        clear hcd
        subst hu
        go_wp2
        go_ret
        exact ⟨⟨_, xs, rfl, HOWN.out, HD.out.2⟩, by rw [HD.out.1]; exact HRM.out, HGW.out⟩

set_option maxHeartbeats 4000000 in
set_option maxRecDepth 100000 in
theorem rm_list_mark {p : Nat} {o : Rs} {w : World} (most : Nat) (h : RM p o w) (res : K.Rd (List R.Mk)) (H : Hid (run (M.takeC most M.takeMk) o = res)) (hm : most ≤ 100) :
    Calls Tryz.prog 50 #[rdP p, .int .i64 most, .func (.func 51) #[rdP p] #[]] w fun x w' => (∃ (v : Value) (xs : List R.Mk), x = .returned v ∧ w'.ownsRow w.heap.size 87 2 v xs.length (mkCells xs) ∧ (∀ l r, res = Sum.inl (l, r) → xs = l)) ∧ RM p (rest res) w' ∧ w.grownBy w' (some p) := by
  obtain ⟨i0, hi, hz0, hz1, hz2⟩ := info_parts Tryz.infoMk
  have hplt := h.lt
  obtain ⟨res0, H0⟩ : ∃ x, Hid (run N.takeL o = x) := ⟨_, Lib.hid rfl⟩
  have HH := Lib.hid (rm_number0 h res0 H0)
  clear h
  go_enter Tryz.func50, Tryz.ntmps50
  go_wp2_with fail
  refine HH.out.mono ?_
  rintro x w1 ⟨⟨n, rfl, hn1, hn2⟩, h1, hg1⟩
  have HN1 := Lib.hid hn1
  have HN2 := Lib.hid hn2
  have HG1 := Lib.hid hg1
  clear hn1 hn2 hg1 HH
  by_cases hlong : most < n
  · have HL := Lib.hid (show res = Sum.inr 4 by rw [← H.out]; exact Come.long H0.out HN1.out HN2.out hlong)
    have hgt : (most : Int) < (n : Int) := by omega
    obtain ⟨left, err, hc, hl, ho⟩ := h1
    obtain ⟨c0, c1, l0, l1⟩ := hc.cells
    have HF : Hid (RM p (.inr 4) (w1.setCell ⟨p, 1, none⟩ (.int .i64 4))) := Lib.hid ⟨left, 4, set_block hc 1 _, hl, rfl, by omega⟩
    clear hc ho
    go_wp2
    go_ret
    rw [HL.out]
    exact ⟨⟨_, [], rfl, World.ownsRow_nil _ _ _ _, (fun l r e => by cases e)⟩, HF.out, grown_set HG1.out 1 _⟩
  · have HC0 : Hid (Come M.takeMk res (([] : List R.Mk)) n (rest res0)) := Lib.hid (by rw [← H.out]; exact Come.start H0.out HN1.out hlong)
    have hgt : ¬ (most : Int) < (n : Int) := by omega
    have HM1 := Lib.hid h1
    clear h1 HN1 HN2 H0 H
    go_wp2
    go_loopw [8, 18] (fun u i wr => ∃ (xs : List R.Mk) (ok : Rs), i = .int .i64 xs.length ∧ xs.length ≤ n ∧ RM p ok wr ∧ wr.ownsRow w.heap.size 87 2 u xs.length (mkCells xs) ∧ w.grownBy wr (some p) ∧ Come M.takeMk res (xs) (n - xs.length) ok) (fun _ i _ => n - (intOf i).toNat)
    case atStart => exact ⟨[], _, rfl, Nat.zero_le _, HM1.out, World.ownsRow_nil _ _ _ _, HG1.out, HC0.out⟩
    case round =>
      obtain ⟨xs, ok, rfl, hk, hrm, hown, hgw, hcm⟩ := hrel
      have HRM := Lib.hid hrm
      have HOWN := Lib.hid hown
      have HGW := Lib.hid hgw
      have HCM := Lib.hid hcm
      obtain ⟨ua, uc, hu, -⟩ := own_slice hown
      clear hrm hown hgw hcm HC0 HM1 HG1
      by_cases hlt : xs.length < n
      · have hk1 : (xs.length : Int) < (n : Int) := by omega
        obtain ⟨res1, H1⟩ : ∃ x, Hid (run M.takeMk ok = x) := ⟨_, Lib.hid rfl⟩
        have HNX : Hid (∀ z, (∀ a r, res1 = Sum.inl (a, r) → z = a) → Come M.takeMk res (xs ++ [z]) (n - (xs.length + 1)) (rest res1)) := Lib.hid fun z hz => Come.step (by have := HCM.out; rwa [show n - xs.length = n - (xs.length + 1) + 1 by omega] at this) H1.out hz
        subst hu
        go_wp2_with fail
        refine (rm_mark HRM.out res1 H1).mono ?_
        rintro x w2 ⟨⟨⟨za, zb⟩, rfl, hz⟩, h2, hg2⟩
        have HCN := Lib.hid (HNX.out (za, zb) hz)
        clear hz
        have hown2 := HOWN.out.kept hg2 (.inr (own_ne HOWN.out hplt).symm)
        have HOWN2 := Lib.hid hown2
        have HG2 := Lib.hid (HGW.out.trans hg2)
        have HM2 := Lib.hid h2
        have hsz2 := HG2.out.size
        have hne2 := own_ne hown2 hplt
        clear h2 hg2 HCM H1
        go_wp2_with (at_builtin; go_loud (refine wpList_append_own _ rfl _ _ 24 rfl w.heap.size 87 i0 _ 2 16 Tryz.underlying24 hi hz0 hz1 hz2 rfl (by decide) _ _ _ rfl (hown2.alloc _) ⟨w2.heap.size, 0, none⟩ 1 1 [.int .i64 za, .int .i64 zb] rfl rfl (World.news_of_block (cs := #[.int .i64 za, .int .i64 zb]) (t := 87) (fr := (0, 0)) (heap_alloc_new w2 _)) (by simp [Value.oneCell']) (by unfold maxLen; omega) (by omega) (by simp; omega) ?_; intro v' w3 hown3 hgrow3 _))
        have HM3 := Lib.hid ((HM2.out.new (.cells #[.int .i64 za, .int .i64 zb] 87)).kept hgrow3 hne2)
        have HG3 : Hid (w.grownBy w3 (some p)) := Lib.hid ((HG2.out.trans (World.grownBy_alloc w2 (.cells #[.int .i64 za, .int .i64 zb] 87) _)).andThen hgrow3 fun b hb => .inl (HOWN2.out.lt b hb).1)
        have HOWN3 : Hid (w3.ownsRow w.heap.size 87 2 v' (xs ++ [(za, zb)]).length (mkCells (xs ++ [(za, zb)]))) := Lib.hid (by rw [mkCells_snoc, List.length_append]; exact hown3)
        clear hown3 hgrow3 hown2 hne2
        go_wp2
        go_roundw
        case rel => exact ⟨xs ++ [(za, zb)], _, by rw [List.length_append]; go_num, by rw [List.length_append]; simp; omega, HM3.out, HOWN3.out, HG3.out, by rw [List.length_append]; exact HCN.out⟩
        case measure => simp [intOf]; omega
      · have hkn : n - xs.length = 0 := by omega
        have hcd := HCM.out
        rw [hkn] at hcd
        have HD := Lib.hid hcd.done
        clear hcd
        subst hu
        go_wp2
        go_ret
        exact ⟨⟨_, xs, rfl, HOWN.out, HD.out.2⟩, by rw [HD.out.1]; exact HRM.out, HGW.out⟩

set_option maxHeartbeats 4000000 in
set_option maxRecDepth 100000 in
theorem rm_list_event {p : Nat} {o : Rs} {w : World} (most : Nat) (h : RM p o w) (res : K.Rd (List E.Ev)) (H : Hid (run (M.takeC most E.takeEv) o = res)) (hm : most ≤ 100) :
    Calls Tryz.prog 59 #[rdP p, .int .i64 most, .func (.func 60) #[rdP p] #[]] w fun x w' => (∃ (v : Value) (xs : List E.Ev), x = .returned v ∧ w'.ownsRow w.heap.size 55 2 v xs.length (evCells xs) ∧ (∀ l r, res = Sum.inl (l, r) → xs = l)) ∧ RM p (rest res) w' ∧ w.grownBy w' (some p) := by
  obtain ⟨i0, hi, hz0, hz1, hz2⟩ := info_parts Tryz.infoEv
  have hplt := h.lt
  obtain ⟨res0, H0⟩ : ∃ x, Hid (run N.takeL o = x) := ⟨_, Lib.hid rfl⟩
  have HH := Lib.hid (rm_number0 h res0 H0)
  clear h
  go_enter Tryz.func59, Tryz.ntmps59
  go_wp2_with fail
  refine HH.out.mono ?_
  rintro x w1 ⟨⟨n, rfl, hn1, hn2⟩, h1, hg1⟩
  have HN1 := Lib.hid hn1
  have HN2 := Lib.hid hn2
  have HG1 := Lib.hid hg1
  clear hn1 hn2 hg1 HH
  by_cases hlong : most < n
  · have HL := Lib.hid (show res = Sum.inr 4 by rw [← H.out]; exact Come.long H0.out HN1.out HN2.out hlong)
    have hgt : (most : Int) < (n : Int) := by omega
    obtain ⟨left, err, hc, hl, ho⟩ := h1
    obtain ⟨c0, c1, l0, l1⟩ := hc.cells
    have HF : Hid (RM p (.inr 4) (w1.setCell ⟨p, 1, none⟩ (.int .i64 4))) := Lib.hid ⟨left, 4, set_block hc 1 _, hl, rfl, by omega⟩
    clear hc ho
    go_wp2
    go_ret
    rw [HL.out]
    exact ⟨⟨_, [], rfl, World.ownsRow_nil _ _ _ _, (fun l r e => by cases e)⟩, HF.out, grown_set HG1.out 1 _⟩
  · have HC0 : Hid (Come E.takeEv res (([] : List E.Ev)) n (rest res0)) := Lib.hid (by rw [← H.out]; exact Come.start H0.out HN1.out hlong)
    have hgt : ¬ (most : Int) < (n : Int) := by omega
    have HM1 := Lib.hid h1
    clear h1 HN1 HN2 H0 H
    go_wp2
    go_loopw [8, 18] (fun u i wr => ∃ (xs : List E.Ev) (ok : Rs), i = .int .i64 xs.length ∧ xs.length ≤ n ∧ RM p ok wr ∧ wr.ownsRow w.heap.size 55 2 u xs.length (evCells xs) ∧ w.grownBy wr (some p) ∧ Come E.takeEv res (xs) (n - xs.length) ok) (fun _ i _ => n - (intOf i).toNat)
    case atStart => exact ⟨[], _, rfl, Nat.zero_le _, HM1.out, World.ownsRow_nil _ _ _ _, HG1.out, HC0.out⟩
    case round =>
      obtain ⟨xs, ok, rfl, hk, hrm, hown, hgw, hcm⟩ := hrel
      have HRM := Lib.hid hrm
      have HOWN := Lib.hid hown
      have HGW := Lib.hid hgw
      have HCM := Lib.hid hcm
      obtain ⟨ua, uc, hu, -⟩ := own_slice hown
      clear hrm hown hgw hcm HC0 HM1 HG1
      by_cases hlt : xs.length < n
      · have hk1 : (xs.length : Int) < (n : Int) := by omega
        obtain ⟨res1, H1⟩ : ∃ x, Hid (run E.takeEv ok = x) := ⟨_, Lib.hid rfl⟩
        have HNX : Hid (∀ z, (∀ a r, res1 = Sum.inl (a, r) → z = a) → Come E.takeEv res (xs ++ [z]) (n - (xs.length + 1)) (rest res1)) := Lib.hid fun z hz => Come.step (by have := HCM.out; rwa [show n - xs.length = n - (xs.length + 1) + 1 by omega] at this) H1.out hz
        subst hu
        go_wp2_with fail
        refine (rm_event HRM.out res1 H1).mono ?_
        rintro x w2 ⟨⟨⟨za, zb⟩, rfl, hz⟩, h2, hg2⟩
        have HCN := Lib.hid (HNX.out (za, zb) hz)
        clear hz
        have hown2 := HOWN.out.kept hg2 (.inr (own_ne HOWN.out hplt).symm)
        have HOWN2 := Lib.hid hown2
        have HG2 := Lib.hid (HGW.out.trans hg2)
        have HM2 := Lib.hid h2
        have hsz2 := HG2.out.size
        have hne2 := own_ne hown2 hplt
        clear h2 hg2 HCM H1
        go_wp2_with (at_builtin; go_loud (refine wpList_append_own _ rfl _ _ 26 rfl w.heap.size 55 i0 _ 2 32 Tryz.underlying26 hi hz0 hz1 hz2 rfl (by decide) _ _ _ rfl (hown2.alloc _) ⟨w2.heap.size, 0, none⟩ 1 1 [.string (B za), .string (B zb)] rfl rfl (World.news_of_block (cs := #[.string (B za), .string (B zb)]) (t := 55) (fr := (0, 0)) (heap_alloc_new w2 _)) (by simp [Value.oneCell']) (by unfold maxLen; omega) (by omega) (by simp; omega) ?_; intro v' w3 hown3 hgrow3 _))
        have HM3 := Lib.hid ((HM2.out.new (.cells #[.string (B za), .string (B zb)] 55)).kept hgrow3 hne2)
        have HG3 : Hid (w.grownBy w3 (some p)) := Lib.hid ((HG2.out.trans (World.grownBy_alloc w2 (.cells #[.string (B za), .string (B zb)] 55) _)).andThen hgrow3 fun b hb => .inl (HOWN2.out.lt b hb).1)
        have HOWN3 : Hid (w3.ownsRow w.heap.size 55 2 v' (xs ++ [(za, zb)]).length (evCells (xs ++ [(za, zb)]))) := Lib.hid (by rw [evCells_snoc, List.length_append]; exact hown3)
        clear hown3 hgrow3 hown2 hne2
        go_wp2
        go_roundw
        case rel => exact ⟨xs ++ [(za, zb)], _, by rw [List.length_append]; go_num, by rw [List.length_append]; simp; omega, HM3.out, HOWN3.out, HG3.out, by rw [List.length_append]; exact HCN.out⟩
        case measure => simp [intOf]; omega
      · have hkn : n - xs.length = 0 := by omega
        have hcd := HCM.out
        rw [hkn] at hcd
        have HD := Lib.hid hcd.done
        clear hcd
        subst hu
        go_wp2
        go_ret
        exact ⟨⟨_, xs, rfl, HOWN.out, HD.out.2⟩, by rw [HD.out.1]; exact HRM.out, HGW.out⟩

set_option maxHeartbeats 4000000 in
set_option maxRecDepth 100000 in
theorem rm_list_entry {p : Nat} {o : Rs} {w : World} (most : Nat) (h : RM p o w) (res : K.Rd (List R.En)) (H : Hid (run (M.takeC most R.takeEn) o = res)) (hm : most ≤ 100) :
    Calls Tryz.prog 52 #[rdP p, .int .i64 most, .func (.func 53) #[rdP p] #[]] w fun x w' => (∃ (v : Value) (xs : List EV), x = .returned v ∧ w'.ownsRow w.heap.size 53 7 v xs.length (enCells xs) ∧ (∀ e ∈ xs, w'.ownsRow w.heap.size 55 2 e.2 e.1.b.events.length (evCells e.1.b.events)) ∧ (∀ l r, res = Sum.inl (l, r) → (ensOf xs) = l)) ∧ RM p (rest res) w' ∧ w.grownBy w' (some p) := by
  obtain ⟨i0, hi, hz0, hz1, hz2⟩ := info_parts Tryz.infoEn
  have hplt := h.lt
  obtain ⟨res0, H0⟩ : ∃ x, Hid (run N.takeL o = x) := ⟨_, Lib.hid rfl⟩
  have HH := Lib.hid (rm_number0 h res0 H0)
  clear h
  go_enter Tryz.func52, Tryz.ntmps52
  go_wp2_with fail
  refine HH.out.mono ?_
  rintro x w1 ⟨⟨n, rfl, hn1, hn2⟩, h1, hg1⟩
  have HN1 := Lib.hid hn1
  have HN2 := Lib.hid hn2
  have HG1 := Lib.hid hg1
  clear hn1 hn2 hg1 HH
  by_cases hlong : most < n
  · have HL := Lib.hid (show res = Sum.inr 4 by rw [← H.out]; exact Come.long H0.out HN1.out HN2.out hlong)
    have hgt : (most : Int) < (n : Int) := by omega
    obtain ⟨left, err, hc, hl, ho⟩ := h1
    obtain ⟨c0, c1, l0, l1⟩ := hc.cells
    have HF : Hid (RM p (.inr 4) (w1.setCell ⟨p, 1, none⟩ (.int .i64 4))) := Lib.hid ⟨left, 4, set_block hc 1 _, hl, rfl, by omega⟩
    clear hc ho
    go_wp2
    go_ret
    rw [HL.out]
    exact ⟨⟨_, [], rfl, World.ownsRow_nil _ _ _ _, (fun e he => by simp at he), (fun l r e => by cases e)⟩, HF.out, grown_set HG1.out 1 _⟩
  · have HC0 : Hid (Come R.takeEn res ((ensOf ([] : List EV))) n (rest res0)) := Lib.hid (by rw [← H.out]; exact Come.start H0.out HN1.out hlong)
    have hgt : ¬ (most : Int) < (n : Int) := by omega
    have HM1 := Lib.hid h1
    clear h1 HN1 HN2 H0 H
    go_wp2
    go_loopw [8, 18] (fun u i wr => ∃ (xs : List EV) (ok : Rs), i = .int .i64 xs.length ∧ xs.length ≤ n ∧ RM p ok wr ∧ wr.ownsRow w.heap.size 53 7 u xs.length (enCells xs) ∧ (∀ e ∈ xs, wr.ownsRow w.heap.size 55 2 e.2 e.1.b.events.length (evCells e.1.b.events)) ∧ w.grownBy wr (some p) ∧ Come R.takeEn res ((ensOf xs)) (n - xs.length) ok) (fun _ i _ => n - (intOf i).toNat)
    case atStart => exact ⟨[], _, rfl, Nat.zero_le _, HM1.out, World.ownsRow_nil _ _ _ _, (fun e he => by simp at he), HG1.out, HC0.out⟩
    case round =>
      obtain ⟨xs, ok, rfl, hk, hrm, hown, hex, hgw, hcm⟩ := hrel
      have HRM := Lib.hid hrm
      have HOWN := Lib.hid hown
      have HGW := Lib.hid hgw
      have HCM := Lib.hid hcm
      have HEX := Lib.hid hex
      obtain ⟨ua, uc, hu, -⟩ := own_slice hown
      clear hrm hown hgw hcm hex HC0 HM1 HG1
      by_cases hlt : xs.length < n
      · have hk1 : (xs.length : Int) < (n : Int) := by omega
        obtain ⟨res1, H1⟩ : ∃ x, Hid (run R.takeEn ok = x) := ⟨_, Lib.hid rfl⟩
        have HNX : Hid (∀ z, (∀ a r, res1 = Sum.inl (a, r) → z = a) → Come R.takeEn res ((ensOf xs) ++ [z]) (n - (xs.length + 1)) (rest res1)) := Lib.hid fun z hz => Come.step (by have := HCM.out; rwa [show n - xs.length = n - (xs.length + 1) + 1 by omega] at this) H1.out hz
        subst hu
        go_wp2_with fail
        refine (rm_entry HRM.out res1 H1).mono ?_
        rintro x w2 ⟨⟨⟨pos, ep, ⟨st, ex, se, sq, evs⟩⟩, ev, rfl, hoe, hz⟩, h2, hg2⟩
        have HCN : Hid (Come R.takeEn res (ensOf (xs ++ [((⟨pos, ep, ⟨st, ex, se, sq, evs⟩⟩, ev) : EV)])) (n - (xs.length + 1)) (rest res1)) := Lib.hid (by rw [show ensOf (xs ++ [((⟨pos, ep, ⟨st, ex, se, sq, evs⟩⟩, ev) : EV)]) = ensOf xs ++ [⟨pos, ep, ⟨st, ex, se, sq, evs⟩⟩] by simp]; exact HNX.out _ hz)
        have HOE : Hid (w2.ownsRow w.heap.size 55 2 ev evs.length (evCells evs)) := Lib.hid (own_base5 hoe HGW.out.size)
        obtain ⟨ea, ec, rfl, -⟩ := own_slice hoe
        dsimp only [enV]
        clear hz hoe
        have hown2 := HOWN.out.kept hg2 (.inr (own_ne HOWN.out hplt).symm)
        have HOWN2 := Lib.hid hown2
        have HG2 := Lib.hid (HGW.out.trans hg2)
        have HM2 := Lib.hid h2
        have hsz2 := HG2.out.size
        have hne2 := own_ne hown2 hplt
        clear h2 HCM H1
        go_wp2_with (at_builtin; go_loud (refine wpList_append_own _ rfl _ _ 25 rfl w.heap.size 53 i0 _ 7 80 Tryz.underlying25 hi hz0 hz1 hz2 rfl (by decide) _ _ _ rfl (hown2.alloc _) ⟨w2.heap.size, 0, none⟩ 1 1 [.int .i64 pos, .int .i64 ep, .string (B st), .int .i64 ex, .int .i64 se, .int .i64 sq, .slice ea evs.length ec] rfl rfl (World.news_of_block (cs := #[.int .i64 pos, .int .i64 ep, .string (B st), .int .i64 ex, .int .i64 se, .int .i64 sq, .slice ea evs.length ec]) (t := 53) (fr := (0, 0)) (heap_alloc_new w2 _)) (by simp [Value.oneCell']) (by unfold maxLen; omega) (by omega) (by simp; omega) ?_; intro v' w3 hown3 hgrow3 _))
        have HM3 := Lib.hid ((HM2.out.new (.cells #[.int .i64 pos, .int .i64 ep, .string (B st), .int .i64 ex, .int .i64 se, .int .i64 sq, .slice ea evs.length ec] 53)).kept hgrow3 hne2)
        have HG3 : Hid (w.grownBy w3 (some p)) := Lib.hid ((HG2.out.trans (World.grownBy_alloc w2 (.cells #[.int .i64 pos, .int .i64 ep, .string (B st), .int .i64 ex, .int .i64 se, .int .i64 sq, .slice ea evs.length ec] 53) _)).andThen hgrow3 fun b hb => .inl (HOWN2.out.lt b hb).1)
        have HEX3 : Hid (∀ e ∈ xs ++ [((⟨pos, ep, ⟨st, ex, se, sq, evs⟩⟩, Value.slice ea evs.length ec) : EV)], w3.ownsRow w.heap.size 55 2 e.2 e.1.b.events.length (evCells e.1.b.events)) := Lib.hid (by
          have key : ∀ (e : EV), w2.ownsRow w.heap.size 55 2 e.2 e.1.b.events.length (evCells e.1.b.events) → w3.ownsRow w.heap.size 55 2 e.2 e.1.b.events.length (evCells e.1.b.events) := fun e he =>
            (he.alloc _).kept hgrow3 (own_differ he HOWN2.out (by decide))
          intro e he
          rcases List.mem_append.1 he with he | he
          · exact key e ((HEX.out e he).kept hg2 (.inr (own_ne (HEX.out e he) hplt).symm))
          · simp at he
            subst he
            exact key _ HOE.out)
        clear hg2
        have HOWN3 : Hid (w3.ownsRow w.heap.size 53 7 v' (xs ++ [((⟨pos, ep, ⟨st, ex, se, sq, evs⟩⟩, Value.slice ea evs.length ec) : EV)]).length (enCells (xs ++ [((⟨pos, ep, ⟨st, ex, se, sq, evs⟩⟩, Value.slice ea evs.length ec) : EV)]))) := Lib.hid (by rw [enCells_snoc, List.length_append]; exact hown3)
        clear hown3 hgrow3 hown2 hne2
        go_wp2
        go_roundw
        case rel => exact ⟨xs ++ [((⟨pos, ep, ⟨st, ex, se, sq, evs⟩⟩, Value.slice ea evs.length ec) : EV)], _, by rw [List.length_append]; go_num, by rw [List.length_append]; simp; omega, HM3.out, HOWN3.out, HEX3.out, HG3.out, by rw [List.length_append]; exact HCN.out⟩
        case measure => simp [intOf]; omega
      · have hkn : n - xs.length = 0 := by omega
        have hcd := HCM.out
        rw [hkn] at hcd
        have HD := Lib.hid hcd.done
        clear hcd
        subst hu
        go_wp2
        go_ret
        exact ⟨⟨_, xs, rfl, HOWN.out, HEX.out, HD.out.2⟩, by rw [HD.out.1]; exact HRM.out, HGW.out⟩

set_option maxHeartbeats 1000000 in
theorem rm_nodes {p : Nat} {o : Rs} {w : World} (h : RM p o w) (res : K.Rd (List Int)) (H : Hid (run (M.takeC 6 M.takeI) o = res)) :
    Calls Tryz.prog 49 #[rdP p] w fun x w' => (∃ (v : Value) (xs : List Int), x = .returned v ∧ w'.ownsRow w.heap.size 3 1 v xs.length (intC xs) ∧ (∀ l r, res = Sum.inl (l, r) → xs = l)) ∧ RM p (rest res) w' ∧ w.grownBy w' (some p) := by
  have hmf : ∀ (fn : Fn) (first cap : Array Value) (w : World), (Instr.makeFunc fn first cap).run Tryz.prog w = .ok (.func fn first cap) w := fun _ _ _ _ => rfl
  have HH := Lib.hid (rm_list_int 6 h res H (by omega))
  clear h H
  go_enter Tryz.func49, Tryz.ntmps49
  go_wp2_with fail
  refine HH.out.mono ?_
  rintro x w1 ⟨⟨v, xs, rfl, h1, h2⟩, h3, h4⟩
  go_wp2
  go_ret
  exact ⟨⟨v, xs, rfl, h1, h2⟩, h3, h4⟩
end Go.Proofs.YtljcgpdjhjkciaaGreat
namespace Go.Proofs.YtljcgpdjhjkciaaGreat
open Go.RowKit

theorem run_as {α : Type} (f : α → M.Pt) (take : List UInt8 → K.Rd α) (o : Rs) : run (fun l => M.as f (take l)) o = M.as f (run take o) := by cases o <;> rfl
theorem rest_as {α : Type} (f : α → M.Pt) (x : K.Rd α) : rest (M.as f x) = rest x := by rcases x with ⟨a, r⟩ | e <;> rfl
theorem as_inl {α : Type} {f : α → M.Pt} {x : K.Rd α} {p : M.Pt} {r : List UInt8} (h : M.as f x = Sum.inl (p, r)) : ∃ a, x = Sum.inl (a, r) ∧ p = f a := by
  rcases x with ⟨a, q⟩ | e
  · have h2 : Sum.inl (f a, q) = (Sum.inl (p, r) : K.Rd M.Pt) := h
    cases h2
    exact ⟨a, rfl, rfl⟩
  · cases h
/-- The steps of a row of parts. -/
inductive Ch : List M.Lt → Rs → List (K.Rd M.Pt) → Rs → Prop
  | nil (o : Rs) : Ch [] o [] o
  | cons {t : M.Lt} {ts : List M.Lt} {o o2 : Rs} {x : K.Rd M.Pt} {xs : List (K.Rd M.Pt)} (h : run (M.takeP t) o = x) (hc : Ch ts (rest x) xs o2) : Ch (t :: ts) o (x :: xs) o2
def comb : List (K.Rd M.Pt) → Rs → K.Rd (List M.Pt)
  | [], .inl l => Sum.inl ([], l)
  | [], .inr e => Sum.inr e
  | .inr e :: _, _ => Sum.inr e
  | .inl (p, r) :: xs, _ => K.bind (comb xs (.inl r)) fun ps q => Sum.inl (p :: ps, q)
theorem ch_err0 {ts : List M.Lt} {e : Nat} {xs : List (K.Rd M.Pt)} {o o2 : Rs} (h : Ch ts o xs o2) : o = .inr e → o2 = .inr e := by
  induction h with
  | nil o => exact id
  | cons h hc ih =>
    intro ho
    subst ho
    have h2 : (Sum.inr e : K.Rd M.Pt) = _ := h
    subst h2
    exact ih rfl
theorem ch_err {ts : List M.Lt} {e : Nat} {xs : List (K.Rd M.Pt)} {o2 : Rs} (h : Ch ts (.inr e) xs o2) : o2 = .inr e := ch_err0 h rfl
theorem ch_run {ts : List M.Lt} {o o2 : Rs} {xs : List (K.Rd M.Pt)} (h : Ch ts o xs o2) : run (M.takeS M.takeP ts) o = comb xs o ∧ rest (comb xs o) = o2 := by
  induction h with
  | nil o => cases o <;> exact ⟨rfl, rfl⟩
  | cons h hc ih =>
    rename_i t ts o o2 x xs
    match o, h with
    | .inr e, h =>
      have h2 : (Sum.inr e : K.Rd M.Pt) = x := h
      subst h2
      exact ⟨rfl, (ch_err hc).symm⟩
    | .inl l, h =>
      have h2 : M.takeP t l = x := h
      have h3 : run (M.takeS M.takeP (t :: ts)) (.inl l) = K.bind (M.takeP t l) fun p r => K.bind (M.takeS M.takeP ts r) fun ps q => Sum.inl (p :: ps, q) := rfl
      rw [h3, h2]
      rcases x with ⟨p, r⟩ | e
      · have h4 : M.takeS M.takeP ts r = comb xs (.inl r) := ih.1
        refine ⟨?_, ?_⟩
        · show K.bind (M.takeS M.takeP ts r) _ = K.bind (comb xs (.inl r)) _
          rw [h4]
        · have h5 : rest (comb xs (.inl r)) = o2 := ih.2
          show rest (K.bind (comb xs (.inl r)) fun ps q => Sum.inl (p :: ps, q)) = o2
          rcases hcb : comb xs (.inl r) with ⟨ps, q⟩ | e
          · rw [hcb] at h5; exact h5
          · rw [hcb] at h5; exact h5
      · exact ⟨rfl, (ch_err hc).symm⟩
theorem comb_cons {y : K.Rd M.Pt} {ys : List (K.Rd M.Pt)} {o : Rs} {ps : List M.Pt} {r : List UInt8} (h : comb (y :: ys) o = Sum.inl (ps, r)) : ∃ p r1 qs, y = Sum.inl (p, r1) ∧ comb ys (.inl r1) = Sum.inl (qs, r) ∧ ps = p :: qs := by
  rcases y with ⟨p, r1⟩ | e
  · obtain ⟨qs, q, h1, h2⟩ := K.bind_inv h
    cases h2
    exact ⟨p, r1, qs, rfl, h1, rfl⟩
  · cases h
theorem comb_nil {o : Rs} {ps : List M.Pt} {r : List UInt8} (h : comb [] o = Sum.inl (ps, r)) : ps = [] := by
  cases o <;> cases h
  rfl
theorem run_ok {t : M.Lt} {o : Rs} {p : M.Pt} {r : List UInt8} (h : run (M.takeP t) o = Sum.inl (p, r)) : M.okP t p := by
  cases o with
  | inl l => exact ((M.partC t).inv l p r h).2
  | inr e => cases h
theorem ok_ints {l : List Int} (h : M.okP .c (.c l)) : ∀ z ∈ l, i64B z := by
  obtain ⟨l2, e, _, h2⟩ := h
  cases e
  intro z hz
  have := h2 z hz
  unfold K.intOk at this
  unfold i64B
  omega
theorem ok_ens {l : List R.En} (h : M.okP .e (.e l)) : ∀ e ∈ l, R.right e = true := by
  obtain ⟨l2, e, _, h2⟩ := h
  cases e
  exact fun e he => (h2 e he).2
theorem ok_evs {l : List E.Ev} (h : M.okP .v (.v l)) : ∀ e ∈ l, E.right e = true := by
  obtain ⟨l2, e, _, h2⟩ := h
  cases e
  exact fun e he => (h2 e he).2
theorem ok_bat {b : E.Bat} (h : M.okP .b (.b b)) : E.fits b = 0 := by
  obtain ⟨l2, e, _, h2⟩ := h
  cases e
  simpa using h2
theorem ok_txt {x : List UInt8} (h : M.okP .s (.s x)) : x.length ≤ 200 := by
  obtain ⟨l2, e, h2⟩ := h
  cases e
  exact h2
theorem own_later {w w' : World} {p base size n : Nat} {t : TypeId} {v : Value} {xs : List Value} (h : w.ownsRow base t size v n xs) (hg : w.grownBy w' (some p)) (hp : p < base) : w'.ownsRow base t size v n xs := h.kept hg (.inr (own_ne h hp).symm)
theorem run_n (o : Rs) : run (M.takeP .n) o = M.as .n (run M.takeI o) := run_as M.Pt.n M.takeI o
theorem run_c (o : Rs) : run (M.takeP .c) o = M.as .c (run (M.takeC 6 M.takeI) o) := run_as M.Pt.c (M.takeC 6 M.takeI) o
theorem run_m (o : Rs) : run (M.takeP .m) o = M.as .m (run (M.takeC 30 M.takeMk) o) := run_as M.Pt.m (M.takeC 30 M.takeMk) o
theorem run_e (o : Rs) : run (M.takeP .e) o = M.as .e (run (M.takeC 8 R.takeEn) o) := run_as M.Pt.e (M.takeC 8 R.takeEn) o
theorem run_v (o : Rs) : run (M.takeP .v) o = M.as .v (run (M.takeC 16 E.takeEv) o) := run_as M.Pt.v (M.takeC 16 E.takeEv) o
theorem run_b (o : Rs) : run (M.takeP .b) o = M.as .b (run E.takeBat o) := run_as M.Pt.b E.takeBat o
theorem run_s (o : Rs) : run (M.takeP .s) o = M.as .s (run (fun l => N.takeT l ((200 : Nat) : Int)) o) := run_as M.Pt.s (fun l => N.takeT l ((200 : Nat) : Int)) o
end Go.Proofs.YtljcgpdjhjkciaaGreat
namespace Go.Proofs.YtljcgpdjhjkciaaGreat
open Go.RowKit
attribute [local go_sem] ext_Bd ext_Bl ext_Bt toList_B add_B size_B get_Bt

def MsgPost (p k : Nat) (w : World) (res : K.Rd (List M.Pt)) (x : Ending) (w' : World) : Prop :=
  (∃ (u : TypeId) (z : Value), x = .returned (.iface u z) ∧ (∀ ps r, res = Sum.inl (ps, r) → ∃ m : MV, .iface u z = m.val ∧ m.kind = k ∧ m.parts = ps ∧ m.Reads w')) ∧ RM p (rest res) w' ∧ w.grownBy w' (some p)

theorem right_i64 {e : R.En} (h : R.right e = true) : i64B e.pos := by
  have h5 := R.right_iff.1 h
  have hlg : R.large = 274877906944 := rfl
  exact ⟨by omega, by omega⟩
set_option maxHeartbeats 1000000 in
set_option maxRecDepth 100000 in
theorem message_none {p : Nat} {w : World} (c : Nat) (hc : c = 0 ∨ 14 < c) :
    Calls Tryz.prog 30 #[rdP p, .int .u8 c] w fun x w' => x = .returned .nilIface ∧ w = w' := by
  have h1 : ((c : Int) == 1) = false := beq_eq_false_iff_ne.2 (by omega)
  have h2 : ((c : Int) == 2) = false := beq_eq_false_iff_ne.2 (by omega)
  have h3 : ((c : Int) == 3) = false := beq_eq_false_iff_ne.2 (by omega)
  have h4 : ((c : Int) == 4) = false := beq_eq_false_iff_ne.2 (by omega)
  have h5 : ((c : Int) == 5) = false := beq_eq_false_iff_ne.2 (by omega)
  have h6 : ((c : Int) == 6) = false := beq_eq_false_iff_ne.2 (by omega)
  have h7 : ((c : Int) == 7) = false := beq_eq_false_iff_ne.2 (by omega)
  have h8 : ((c : Int) == 8) = false := beq_eq_false_iff_ne.2 (by omega)
  have h9 : ((c : Int) == 9) = false := beq_eq_false_iff_ne.2 (by omega)
  have h10 : ((c : Int) == 10) = false := beq_eq_false_iff_ne.2 (by omega)
  have h11 : ((c : Int) == 11) = false := beq_eq_false_iff_ne.2 (by omega)
  have h12 : ((c : Int) == 12) = false := beq_eq_false_iff_ne.2 (by omega)
  have h13 : ((c : Int) == 13) = false := beq_eq_false_iff_ne.2 (by omega)
  have h14 : ((c : Int) == 14) = false := beq_eq_false_iff_ne.2 (by omega)
  clear hc
  go_enter Tryz.func30, Tryz.ntmps30
  go_wp2
  go_ret
  exact ⟨rfl, rfl⟩

set_option maxHeartbeats 4000000 in
set_option maxRecDepth 100000 in
theorem message_beat {p : Nat} {w : World} {l : List UInt8} (h : RM p (.inl l) w) (res : K.Rd (List M.Pt)) (H : Hid (M.takeS M.takeP (M.shape 1) l = res)) :
    Calls Tryz.prog 30 #[rdP p, .int .u8 1] w (MsgPost p 1 w res) := by
  have hplt := h.lt
  have hmf : ∀ (fn : Fn) (first cap : Array Value) (w : World), (Instr.makeFunc fn first cap).run Tryz.prog w = .ok (.func fn first cap) w := fun _ _ _ _ => rfl
  obtain ⟨res1, H1⟩ : ∃ x, Hid (run M.takeI (.inl l) = x) := ⟨_, Lib.hid rfl⟩
  obtain ⟨res2, H2⟩ : ∃ x, Hid (run M.takeI (rest res1) = x) := ⟨_, Lib.hid rfl⟩
  obtain ⟨res3, H3⟩ : ∃ x, Hid (run M.takeI (rest res2) = x) := ⟨_, Lib.hid rfl⟩
  have hch : Ch (M.shape 1) (.inl l) [M.as .n res1, M.as .n res2, M.as .n res3] (rest (M.as .n res3)) := Ch.cons (x := M.as .n res1) (by rw [run_n, H1.out]) (Ch.cons (x := M.as .n res2) (by rw [run_n, rest_as, H2.out]) (Ch.cons (x := M.as .n res3) (by rw [run_n, rest_as, H3.out]) (Ch.nil _)))
  have hcr := ch_run hch
  rw [rest_as] at hcr
  have HE : Hid (comb [M.as .n res1, M.as .n res2, M.as .n res3] (.inl l) = res) := Lib.hid (by rw [← hcr.1]; exact H.out)
  have HRR : Hid (rest res = rest res3) := Lib.hid (by rw [← HE.out]; exact hcr.2)
  have HM0 := Lib.hid h
  have HG0 : Hid (w.grownBy w (some p)) := Lib.hid (grown_refl _ _)
  clear h H hch hcr
  go_enter Tryz.func30, Tryz.ntmps30
  go_wp2_with fail
  refine (rm_number HM0.out res1 H1).mono ?_
  rintro x w1 ⟨⟨z1, rfl, hz⟩, h1, hg1⟩
  have HZ1 := Lib.hid hz
  have HM1 := Lib.hid h1
  have HG1 := Lib.hid (HG0.out.trans hg1)
  clear hz h1 hg1 HM0 HG0
  go_wp2_with fail
  refine (rm_number HM1.out res2 H2).mono ?_
  rintro x w2 ⟨⟨z2, rfl, hz⟩, h1, hg1⟩
  have HZ2 := Lib.hid hz
  have HM2 := Lib.hid h1
  have HG2 := Lib.hid (HG1.out.trans hg1)
  clear hz h1 hg1 HM1 HG1
  go_wp2_with fail
  refine (rm_number HM2.out res3 H3).mono ?_
  rintro x w3 ⟨⟨z3, rfl, hz⟩, h1, hg1⟩
  have HZ3 := Lib.hid hz
  have HM3 := Lib.hid h1
  have HG3 := Lib.hid (HG2.out.trans hg1)
  clear hz h1 hg1 HM2 HG2
  have HT : Hid (∀ ps r, res = Sum.inl (ps, r) → ∃ m : MV, .iface 57 (.agg #[.int .i64 z1, .int .i64 z2, .int .i64 z3]) = m.val ∧ m.kind = 1 ∧ m.parts = ps ∧ m.Reads w3) := Lib.hid fun ps r hres => by
    have hcb := HE.out.trans hres
    obtain ⟨p1, r1, q1, e1, h1, rfl⟩ := comb_cons hcb
    obtain ⟨x1, f1, rfl⟩ := as_inl e1
    obtain ⟨p2, r2, q2, e2, h2, rfl⟩ := comb_cons h1
    obtain ⟨x2, f2, rfl⟩ := as_inl e2
    obtain ⟨p3, r3, q3, e3, h3, rfl⟩ := comb_cons h2
    obtain ⟨x3, f3, rfl⟩ := as_inl e3
    obtain rfl := comb_nil h3
    obtain rfl := HZ1.out _ _ f1
    obtain rfl := HZ2.out _ _ f2
    obtain rfl := HZ3.out _ _ f3
    exact ⟨.beat_ z1 z2 z3, rfl, rfl, rfl, trivial⟩
  clear HZ1 HZ2 HZ3 H1 H2 H3 HE
  go_wp2
  go_ret
  exact ⟨⟨_, _, rfl, HT.out⟩, by rw [HRR.out]; exact HM3.out, HG3.out⟩

set_option maxHeartbeats 4000000 in
set_option maxRecDepth 100000 in
theorem message_join {p : Nat} {w : World} {l : List UInt8} (h : RM p (.inl l) w) (res : K.Rd (List M.Pt)) (H : Hid (M.takeS M.takeP (M.shape 2) l = res)) :
    Calls Tryz.prog 30 #[rdP p, .int .u8 2] w (MsgPost p 2 w res) := by
  have hplt := h.lt
  have hmf : ∀ (fn : Fn) (first cap : Array Value) (w : World), (Instr.makeFunc fn first cap).run Tryz.prog w = .ok (.func fn first cap) w := fun _ _ _ _ => rfl
  obtain ⟨res1, H1⟩ : ∃ x, Hid (run M.takeI (.inl l) = x) := ⟨_, Lib.hid rfl⟩
  obtain ⟨res2, H2⟩ : ∃ x, Hid (run M.takeI (rest res1) = x) := ⟨_, Lib.hid rfl⟩
  have hch : Ch (M.shape 2) (.inl l) [M.as .n res1, M.as .n res2] (rest (M.as .n res2)) := Ch.cons (x := M.as .n res1) (by rw [run_n, H1.out]) (Ch.cons (x := M.as .n res2) (by rw [run_n, rest_as, H2.out]) (Ch.nil _))
  have hcr := ch_run hch
  rw [rest_as] at hcr
  have HE : Hid (comb [M.as .n res1, M.as .n res2] (.inl l) = res) := Lib.hid (by rw [← hcr.1]; exact H.out)
  have HRR : Hid (rest res = rest res2) := Lib.hid (by rw [← HE.out]; exact hcr.2)
  have HM0 := Lib.hid h
  have HG0 : Hid (w.grownBy w (some p)) := Lib.hid (grown_refl _ _)
  clear h H hch hcr
  go_enter Tryz.func30, Tryz.ntmps30
  go_wp2_with fail
  refine (rm_number HM0.out res1 H1).mono ?_
  rintro x w1 ⟨⟨z1, rfl, hz⟩, h1, hg1⟩
  have HZ1 := Lib.hid hz
  have HM1 := Lib.hid h1
  have HG1 := Lib.hid (HG0.out.trans hg1)
  clear hz h1 hg1 HM0 HG0
  go_wp2_with fail
  refine (rm_number HM1.out res2 H2).mono ?_
  rintro x w2 ⟨⟨z2, rfl, hz⟩, h1, hg1⟩
  have HZ2 := Lib.hid hz
  have HM2 := Lib.hid h1
  have HG2 := Lib.hid (HG1.out.trans hg1)
  clear hz h1 hg1 HM1 HG1
  have HT : Hid (∀ ps r, res = Sum.inl (ps, r) → ∃ m : MV, .iface 59 (.agg #[.int .i64 z1, .int .i64 z2]) = m.val ∧ m.kind = 2 ∧ m.parts = ps ∧ m.Reads w2) := Lib.hid fun ps r hres => by
    have hcb := HE.out.trans hres
    obtain ⟨p1, r1, q1, e1, h1, rfl⟩ := comb_cons hcb
    obtain ⟨x1, f1, rfl⟩ := as_inl e1
    obtain ⟨p2, r2, q2, e2, h2, rfl⟩ := comb_cons h1
    obtain ⟨x2, f2, rfl⟩ := as_inl e2
    obtain rfl := comb_nil h2
    obtain rfl := HZ1.out _ _ f1
    obtain rfl := HZ2.out _ _ f2
    exact ⟨.join_ z1 z2, rfl, rfl, rfl, trivial⟩
  clear HZ1 HZ2 H1 H2 HE
  go_wp2
  go_ret
  exact ⟨⟨_, _, rfl, HT.out⟩, by rw [HRR.out]; exact HM2.out, HG2.out⟩

set_option maxHeartbeats 4000000 in
set_option maxRecDepth 100000 in
theorem message_lease {p : Nat} {w : World} {l : List UInt8} (h : RM p (.inl l) w) (res : K.Rd (List M.Pt)) (H : Hid (M.takeS M.takeP (M.shape 3) l = res)) :
    Calls Tryz.prog 30 #[rdP p, .int .u8 3] w (MsgPost p 3 w res) := by
  have hplt := h.lt
  have hmf : ∀ (fn : Fn) (first cap : Array Value) (w : World), (Instr.makeFunc fn first cap).run Tryz.prog w = .ok (.func fn first cap) w := fun _ _ _ _ => rfl
  obtain ⟨res1, H1⟩ : ∃ x, Hid (run M.takeI (.inl l) = x) := ⟨_, Lib.hid rfl⟩
  obtain ⟨res2, H2⟩ : ∃ x, Hid (run M.takeI (rest res1) = x) := ⟨_, Lib.hid rfl⟩
  have hch : Ch (M.shape 3) (.inl l) [M.as .n res1, M.as .n res2] (rest (M.as .n res2)) := Ch.cons (x := M.as .n res1) (by rw [run_n, H1.out]) (Ch.cons (x := M.as .n res2) (by rw [run_n, rest_as, H2.out]) (Ch.nil _))
  have hcr := ch_run hch
  rw [rest_as] at hcr
  have HE : Hid (comb [M.as .n res1, M.as .n res2] (.inl l) = res) := Lib.hid (by rw [← hcr.1]; exact H.out)
  have HRR : Hid (rest res = rest res2) := Lib.hid (by rw [← HE.out]; exact hcr.2)
  have HM0 := Lib.hid h
  have HG0 : Hid (w.grownBy w (some p)) := Lib.hid (grown_refl _ _)
  clear h H hch hcr
  go_enter Tryz.func30, Tryz.ntmps30
  go_wp2_with fail
  refine (rm_number HM0.out res1 H1).mono ?_
  rintro x w1 ⟨⟨z1, rfl, hz⟩, h1, hg1⟩
  have HZ1 := Lib.hid hz
  have HM1 := Lib.hid h1
  have HG1 := Lib.hid (HG0.out.trans hg1)
  clear hz h1 hg1 HM0 HG0
  go_wp2_with fail
  refine (rm_number HM1.out res2 H2).mono ?_
  rintro x w2 ⟨⟨z2, rfl, hz⟩, h1, hg1⟩
  have HZ2 := Lib.hid hz
  have HM2 := Lib.hid h1
  have HG2 := Lib.hid (HG1.out.trans hg1)
  clear hz h1 hg1 HM1 HG1
  have HT : Hid (∀ ps r, res = Sum.inl (ps, r) → ∃ m : MV, .iface 61 (.agg #[.int .i64 z1, .int .i64 z2]) = m.val ∧ m.kind = 3 ∧ m.parts = ps ∧ m.Reads w2) := Lib.hid fun ps r hres => by
    have hcb := HE.out.trans hres
    obtain ⟨p1, r1, q1, e1, h1, rfl⟩ := comb_cons hcb
    obtain ⟨x1, f1, rfl⟩ := as_inl e1
    obtain ⟨p2, r2, q2, e2, h2, rfl⟩ := comb_cons h1
    obtain ⟨x2, f2, rfl⟩ := as_inl e2
    obtain rfl := comb_nil h2
    obtain rfl := HZ1.out _ _ f1
    obtain rfl := HZ2.out _ _ f2
    exact ⟨.lease_ z1 z2, rfl, rfl, rfl, trivial⟩
  clear HZ1 HZ2 H1 H2 HE
  go_wp2
  go_ret
  exact ⟨⟨_, _, rfl, HT.out⟩, by rw [HRR.out]; exact HM2.out, HG2.out⟩

set_option maxHeartbeats 4000000 in
set_option maxRecDepth 100000 in
theorem message_view {p : Nat} {w : World} {l : List UInt8} (h : RM p (.inl l) w) (res : K.Rd (List M.Pt)) (H : Hid (M.takeS M.takeP (M.shape 4) l = res)) :
    Calls Tryz.prog 30 #[rdP p, .int .u8 4] w (MsgPost p 4 w res) := by
  have hplt := h.lt
  have hmf : ∀ (fn : Fn) (first cap : Array Value) (w : World), (Instr.makeFunc fn first cap).run Tryz.prog w = .ok (.func fn first cap) w := fun _ _ _ _ => rfl
  obtain ⟨res1, H1⟩ : ∃ x, Hid (run M.takeI (.inl l) = x) := ⟨_, Lib.hid rfl⟩
  obtain ⟨res2, H2⟩ : ∃ x, Hid (run (M.takeC 6 M.takeI) (rest res1) = x) := ⟨_, Lib.hid rfl⟩
  obtain ⟨res3, H3⟩ : ∃ x, Hid (run (M.takeC 6 M.takeI) (rest res2) = x) := ⟨_, Lib.hid rfl⟩
  obtain ⟨res4, H4⟩ : ∃ x, Hid (run (M.takeC 6 M.takeI) (rest res3) = x) := ⟨_, Lib.hid rfl⟩
  have hch : Ch (M.shape 4) (.inl l) [M.as .n res1, M.as .c res2, M.as .c res3, M.as .c res4] (rest (M.as .c res4)) := Ch.cons (x := M.as .n res1) (by rw [run_n, H1.out]) (Ch.cons (x := M.as .c res2) (by rw [run_c, rest_as, H2.out]) (Ch.cons (x := M.as .c res3) (by rw [run_c, rest_as, H3.out]) (Ch.cons (x := M.as .c res4) (by rw [run_c, rest_as, H4.out]) (Ch.nil _))))
  have hcr := ch_run hch
  rw [rest_as] at hcr
  have HE : Hid (comb [M.as .n res1, M.as .c res2, M.as .c res3, M.as .c res4] (.inl l) = res) := Lib.hid (by rw [← hcr.1]; exact H.out)
  have HRR : Hid (rest res = rest res4) := Lib.hid (by rw [← HE.out]; exact hcr.2)
  have HM0 := Lib.hid h
  have HG0 : Hid (w.grownBy w (some p)) := Lib.hid (grown_refl _ _)
  clear h H hch hcr
  go_enter Tryz.func30, Tryz.ntmps30
  go_wp2_with fail
  refine (rm_number HM0.out res1 H1).mono ?_
  rintro x w1 ⟨⟨z1, rfl, hz⟩, h1, hg1⟩
  have HZ1 := Lib.hid hz
  have HM1 := Lib.hid h1
  have HG1 := Lib.hid (HG0.out.trans hg1)
  clear hz h1 hg1 HM0 HG0
  go_wp2_with fail
  refine (rm_nodes HM1.out res2 H2).mono ?_
  rintro x w2 ⟨⟨v2, xs2, rfl, how, hz⟩, h1, hg1⟩
  have HZ2 := Lib.hid hz
  have HO2 := Lib.hid (own_base5 (b := w.heap.size) how HG1.out.size)
  obtain ⟨a2, c2, rfl, -⟩ := own_slice how
  have HM2 := Lib.hid h1
  have HG2 := Lib.hid (HG1.out.trans hg1)
  clear hz h1 hg1 how HM1 HG1
  go_wp2_with fail
  refine (rm_nodes HM2.out res3 H3).mono ?_
  rintro x w3 ⟨⟨v3, xs3, rfl, how, hz⟩, h1, hg1⟩
  have HZ3 := Lib.hid hz
  have HO3 := Lib.hid (own_base5 (b := w.heap.size) how HG2.out.size)
  obtain ⟨a3, c3, rfl, -⟩ := own_slice how
  have HM3 := Lib.hid h1
  have HG3 := Lib.hid (HG2.out.trans hg1)
  have HP2 := Lib.hid (own_later HO2.out hg1 hplt)
  clear HO2
  have HO2 := HP2
  clear HP2
  clear hz h1 hg1 how HM2 HG2
  go_wp2_with fail
  refine (rm_nodes HM3.out res4 H4).mono ?_
  rintro x w4 ⟨⟨v4, xs4, rfl, how, hz⟩, h1, hg1⟩
  have HZ4 := Lib.hid hz
  have HO4 := Lib.hid (own_base5 (b := w.heap.size) how HG3.out.size)
  obtain ⟨a4, c4, rfl, -⟩ := own_slice how
  have HM4 := Lib.hid h1
  have HG4 := Lib.hid (HG3.out.trans hg1)
  have HP2 := Lib.hid (own_later HO2.out hg1 hplt)
  clear HO2
  have HO2 := HP2
  clear HP2
  have HP3 := Lib.hid (own_later HO3.out hg1 hplt)
  clear HO3
  have HO3 := HP3
  clear HP3
  clear hz h1 hg1 how HM3 HG3
  have HT : Hid (∀ ps r, res = Sum.inl (ps, r) → ∃ m : MV, .iface 63 (.agg #[.int .i64 z1, .slice a2 xs2.length c2, .slice a3 xs3.length c3, .slice a4 xs4.length c4]) = m.val ∧ m.kind = 4 ∧ m.parts = ps ∧ m.Reads w4) := Lib.hid fun ps r hres => by
    have hcb := HE.out.trans hres
    obtain ⟨p1, r1, q1, e1, h1, rfl⟩ := comb_cons hcb
    obtain ⟨x1, f1, rfl⟩ := as_inl e1
    obtain ⟨p2, r2, q2, e2, h2, rfl⟩ := comb_cons h1
    obtain ⟨x2, f2, rfl⟩ := as_inl e2
    obtain ⟨p3, r3, q3, e3, h3, rfl⟩ := comb_cons h2
    obtain ⟨x3, f3, rfl⟩ := as_inl e3
    obtain ⟨p4, r4, q4, e4, h4, rfl⟩ := comb_cons h3
    obtain ⟨x4, f4, rfl⟩ := as_inl e4
    obtain rfl := comb_nil h4
    obtain rfl := HZ1.out _ _ f1
    have k2 := run_ok (t := .c) (o := (rest res1)) (p := .c x2) (r := r2) (by rw [run_c, H2.out]; exact e2)
    obtain rfl := HZ2.out _ _ f2
    have k3 := run_ok (t := .c) (o := (rest res2)) (p := .c x3) (r := r3) (by rw [run_c, H3.out]; exact e3)
    obtain rfl := HZ3.out _ _ f3
    have k4 := run_ok (t := .c) (o := (rest res3)) (p := .c x4) (r := r4) (by rw [run_c, H4.out]; exact e4)
    obtain rfl := HZ4.out _ _ f4
    exact ⟨.view_ z1 xs2 (.slice a2 xs2.length c2) xs3 (.slice a3 xs3.length c3) xs4 (.slice a4 xs4.length c4), rfl, rfl, rfl, ⟨readsI_own HO2.out (ok_ints k2), readsI_own HO3.out (ok_ints k3), readsI_own HO4.out (ok_ints k4)⟩⟩
  clear HZ1 HZ2 HZ3 HZ4 H1 H2 H3 H4 HE
  go_wp2
  go_ret
  exact ⟨⟨_, _, rfl, HT.out⟩, by rw [HRR.out]; exact HM4.out, HG4.out⟩

set_option maxHeartbeats 4000000 in
set_option maxRecDepth 100000 in
theorem message_where {p : Nat} {w : World} {l : List UInt8} (h : RM p (.inl l) w) (res : K.Rd (List M.Pt)) (H : Hid (M.takeS M.takeP (M.shape 5) l = res)) :
    Calls Tryz.prog 30 #[rdP p, .int .u8 5] w (MsgPost p 5 w res) := by
  have hplt := h.lt
  have hmf : ∀ (fn : Fn) (first cap : Array Value) (w : World), (Instr.makeFunc fn first cap).run Tryz.prog w = .ok (.func fn first cap) w := fun _ _ _ _ => rfl
  obtain ⟨res1, H1⟩ : ∃ x, Hid (run M.takeI (.inl l) = x) := ⟨_, Lib.hid rfl⟩
  have hch : Ch (M.shape 5) (.inl l) [M.as .n res1] (rest (M.as .n res1)) := Ch.cons (x := M.as .n res1) (by rw [run_n, H1.out]) (Ch.nil _)
  have hcr := ch_run hch
  rw [rest_as] at hcr
  have HE : Hid (comb [M.as .n res1] (.inl l) = res) := Lib.hid (by rw [← hcr.1]; exact H.out)
  have HRR : Hid (rest res = rest res1) := Lib.hid (by rw [← HE.out]; exact hcr.2)
  have HM0 := Lib.hid h
  have HG0 : Hid (w.grownBy w (some p)) := Lib.hid (grown_refl _ _)
  clear h H hch hcr
  go_enter Tryz.func30, Tryz.ntmps30
  go_wp2_with fail
  refine (rm_number HM0.out res1 H1).mono ?_
  rintro x w1 ⟨⟨z1, rfl, hz⟩, h1, hg1⟩
  have HZ1 := Lib.hid hz
  have HM1 := Lib.hid h1
  have HG1 := Lib.hid (HG0.out.trans hg1)
  clear hz h1 hg1 HM0 HG0
  have HT : Hid (∀ ps r, res = Sum.inl (ps, r) → ∃ m : MV, .iface 65 (.agg #[.int .i64 z1]) = m.val ∧ m.kind = 5 ∧ m.parts = ps ∧ m.Reads w1) := Lib.hid fun ps r hres => by
    have hcb := HE.out.trans hres
    obtain ⟨p1, r1, q1, e1, h1, rfl⟩ := comb_cons hcb
    obtain ⟨x1, f1, rfl⟩ := as_inl e1
    obtain rfl := comb_nil h1
    obtain rfl := HZ1.out _ _ f1
    exact ⟨.where_ z1, rfl, rfl, rfl, trivial⟩
  clear HZ1 H1 HE
  go_wp2
  go_ret
  exact ⟨⟨_, _, rfl, HT.out⟩, by rw [HRR.out]; exact HM1.out, HG1.out⟩

set_option maxHeartbeats 4000000 in
set_option maxRecDepth 100000 in
theorem message_have {p : Nat} {w : World} {l : List UInt8} (h : RM p (.inl l) w) (res : K.Rd (List M.Pt)) (H : Hid (M.takeS M.takeP (M.shape 6) l = res)) :
    Calls Tryz.prog 30 #[rdP p, .int .u8 6] w (MsgPost p 6 w res) := by
  have hplt := h.lt
  have hmf : ∀ (fn : Fn) (first cap : Array Value) (w : World), (Instr.makeFunc fn first cap).run Tryz.prog w = .ok (.func fn first cap) w := fun _ _ _ _ => rfl
  obtain ⟨res1, H1⟩ : ∃ x, Hid (run M.takeI (.inl l) = x) := ⟨_, Lib.hid rfl⟩
  obtain ⟨res2, H2⟩ : ∃ x, Hid (run M.takeI (rest res1) = x) := ⟨_, Lib.hid rfl⟩
  obtain ⟨res3, H3⟩ : ∃ x, Hid (run M.takeI (rest res2) = x) := ⟨_, Lib.hid rfl⟩
  obtain ⟨res4, H4⟩ : ∃ x, Hid (run (M.takeC 30 M.takeMk) (rest res3) = x) := ⟨_, Lib.hid rfl⟩
  have hch : Ch (M.shape 6) (.inl l) [M.as .n res1, M.as .n res2, M.as .n res3, M.as .m res4] (rest (M.as .m res4)) := Ch.cons (x := M.as .n res1) (by rw [run_n, H1.out]) (Ch.cons (x := M.as .n res2) (by rw [run_n, rest_as, H2.out]) (Ch.cons (x := M.as .n res3) (by rw [run_n, rest_as, H3.out]) (Ch.cons (x := M.as .m res4) (by rw [run_m, rest_as, H4.out]) (Ch.nil _))))
  have hcr := ch_run hch
  rw [rest_as] at hcr
  have HE : Hid (comb [M.as .n res1, M.as .n res2, M.as .n res3, M.as .m res4] (.inl l) = res) := Lib.hid (by rw [← hcr.1]; exact H.out)
  have HRR : Hid (rest res = rest res4) := Lib.hid (by rw [← HE.out]; exact hcr.2)
  have HM0 := Lib.hid h
  have HG0 : Hid (w.grownBy w (some p)) := Lib.hid (grown_refl _ _)
  clear h H hch hcr
  go_enter Tryz.func30, Tryz.ntmps30
  go_wp2_with fail
  refine (rm_number HM0.out res1 H1).mono ?_
  rintro x w1 ⟨⟨z1, rfl, hz⟩, h1, hg1⟩
  have HZ1 := Lib.hid hz
  have HM1 := Lib.hid h1
  have HG1 := Lib.hid (HG0.out.trans hg1)
  clear hz h1 hg1 HM0 HG0
  go_wp2_with fail
  refine (rm_number HM1.out res2 H2).mono ?_
  rintro x w2 ⟨⟨z2, rfl, hz⟩, h1, hg1⟩
  have HZ2 := Lib.hid hz
  have HM2 := Lib.hid h1
  have HG2 := Lib.hid (HG1.out.trans hg1)
  clear hz h1 hg1 HM1 HG1
  go_wp2_with fail
  refine (rm_number HM2.out res3 H3).mono ?_
  rintro x w3 ⟨⟨z3, rfl, hz⟩, h1, hg1⟩
  have HZ3 := Lib.hid hz
  have HM3 := Lib.hid h1
  have HG3 := Lib.hid (HG2.out.trans hg1)
  clear hz h1 hg1 HM2 HG2
  go_wp2_with fail
  refine (rm_list_mark 30 HM3.out res4 H4 (by omega)).mono ?_
  rintro x w4 ⟨⟨v4, xs4, rfl, how, hz⟩, h1, hg1⟩
  have HZ4 := Lib.hid hz
  have HO4 := Lib.hid (own_base5 (b := w.heap.size) how HG3.out.size)
  obtain ⟨a4, c4, rfl, -⟩ := own_slice how
  have HM4 := Lib.hid h1
  have HG4 := Lib.hid (HG3.out.trans hg1)
  clear hz h1 hg1 how HM3 HG3
  have HT : Hid (∀ ps r, res = Sum.inl (ps, r) → ∃ m : MV, .iface 67 (.agg #[.int .i64 z1, .int .i64 z2, .int .i64 z3, .slice a4 xs4.length c4]) = m.val ∧ m.kind = 6 ∧ m.parts = ps ∧ m.Reads w4) := Lib.hid fun ps r hres => by
    have hcb := HE.out.trans hres
    obtain ⟨p1, r1, q1, e1, h1, rfl⟩ := comb_cons hcb
    obtain ⟨x1, f1, rfl⟩ := as_inl e1
    obtain ⟨p2, r2, q2, e2, h2, rfl⟩ := comb_cons h1
    obtain ⟨x2, f2, rfl⟩ := as_inl e2
    obtain ⟨p3, r3, q3, e3, h3, rfl⟩ := comb_cons h2
    obtain ⟨x3, f3, rfl⟩ := as_inl e3
    obtain ⟨p4, r4, q4, e4, h4, rfl⟩ := comb_cons h3
    obtain ⟨x4, f4, rfl⟩ := as_inl e4
    obtain rfl := comb_nil h4
    obtain rfl := HZ1.out _ _ f1
    obtain rfl := HZ2.out _ _ f2
    obtain rfl := HZ3.out _ _ f3
    obtain rfl := HZ4.out _ _ f4
    exact ⟨.have_ z1 z2 z3 xs4 (.slice a4 xs4.length c4), rfl, rfl, rfl, readsM_own HO4.out⟩
  clear HZ1 HZ2 HZ3 HZ4 H1 H2 H3 H4 HE
  go_wp2
  go_ret
  exact ⟨⟨_, _, rfl, HT.out⟩, by rw [HRR.out]; exact HM4.out, HG4.out⟩

set_option maxHeartbeats 4000000 in
set_option maxRecDepth 100000 in
theorem message_logs {p : Nat} {w : World} {l : List UInt8} (h : RM p (.inl l) w) (res : K.Rd (List M.Pt)) (H : Hid (M.takeS M.takeP (M.shape 7) l = res)) :
    Calls Tryz.prog 30 #[rdP p, .int .u8 7] w (MsgPost p 7 w res) := by
  have hplt := h.lt
  have hmf : ∀ (fn : Fn) (first cap : Array Value) (w : World), (Instr.makeFunc fn first cap).run Tryz.prog w = .ok (.func fn first cap) w := fun _ _ _ _ => rfl
  obtain ⟨res1, H1⟩ : ∃ x, Hid (run M.takeI (.inl l) = x) := ⟨_, Lib.hid rfl⟩
  obtain ⟨res2, H2⟩ : ∃ x, Hid (run M.takeI (rest res1) = x) := ⟨_, Lib.hid rfl⟩
  obtain ⟨res3, H3⟩ : ∃ x, Hid (run M.takeI (rest res2) = x) := ⟨_, Lib.hid rfl⟩
  obtain ⟨res4, H4⟩ : ∃ x, Hid (run M.takeI (rest res3) = x) := ⟨_, Lib.hid rfl⟩
  obtain ⟨res5, H5⟩ : ∃ x, Hid (run M.takeI (rest res4) = x) := ⟨_, Lib.hid rfl⟩
  obtain ⟨res6, H6⟩ : ∃ x, Hid (run M.takeI (rest res5) = x) := ⟨_, Lib.hid rfl⟩
  obtain ⟨res7, H7⟩ : ∃ x, Hid (run (M.takeC 8 R.takeEn) (rest res6) = x) := ⟨_, Lib.hid rfl⟩
  have hch : Ch (M.shape 7) (.inl l) [M.as .n res1, M.as .n res2, M.as .n res3, M.as .n res4, M.as .n res5, M.as .n res6, M.as .e res7] (rest (M.as .e res7)) := Ch.cons (x := M.as .n res1) (by rw [run_n, H1.out]) (Ch.cons (x := M.as .n res2) (by rw [run_n, rest_as, H2.out]) (Ch.cons (x := M.as .n res3) (by rw [run_n, rest_as, H3.out]) (Ch.cons (x := M.as .n res4) (by rw [run_n, rest_as, H4.out]) (Ch.cons (x := M.as .n res5) (by rw [run_n, rest_as, H5.out]) (Ch.cons (x := M.as .n res6) (by rw [run_n, rest_as, H6.out]) (Ch.cons (x := M.as .e res7) (by rw [run_e, rest_as, H7.out]) (Ch.nil _)))))))
  have hcr := ch_run hch
  rw [rest_as] at hcr
  have HE : Hid (comb [M.as .n res1, M.as .n res2, M.as .n res3, M.as .n res4, M.as .n res5, M.as .n res6, M.as .e res7] (.inl l) = res) := Lib.hid (by rw [← hcr.1]; exact H.out)
  have HRR : Hid (rest res = rest res7) := Lib.hid (by rw [← HE.out]; exact hcr.2)
  have HM0 := Lib.hid h
  have HG0 : Hid (w.grownBy w (some p)) := Lib.hid (grown_refl _ _)
  clear h H hch hcr
  go_enter Tryz.func30, Tryz.ntmps30
  go_wp2_with fail
  refine (rm_number HM0.out res1 H1).mono ?_
  rintro x w1 ⟨⟨z1, rfl, hz⟩, h1, hg1⟩
  have HZ1 := Lib.hid hz
  have HM1 := Lib.hid h1
  have HG1 := Lib.hid (HG0.out.trans hg1)
  clear hz h1 hg1 HM0 HG0
  go_wp2_with fail
  refine (rm_number HM1.out res2 H2).mono ?_
  rintro x w2 ⟨⟨z2, rfl, hz⟩, h1, hg1⟩
  have HZ2 := Lib.hid hz
  have HM2 := Lib.hid h1
  have HG2 := Lib.hid (HG1.out.trans hg1)
  clear hz h1 hg1 HM1 HG1
  go_wp2_with fail
  refine (rm_number HM2.out res3 H3).mono ?_
  rintro x w3 ⟨⟨z3, rfl, hz⟩, h1, hg1⟩
  have HZ3 := Lib.hid hz
  have HM3 := Lib.hid h1
  have HG3 := Lib.hid (HG2.out.trans hg1)
  clear hz h1 hg1 HM2 HG2
  go_wp2_with fail
  refine (rm_number HM3.out res4 H4).mono ?_
  rintro x w4 ⟨⟨z4, rfl, hz⟩, h1, hg1⟩
  have HZ4 := Lib.hid hz
  have HM4 := Lib.hid h1
  have HG4 := Lib.hid (HG3.out.trans hg1)
  clear hz h1 hg1 HM3 HG3
  go_wp2_with fail
  refine (rm_number HM4.out res5 H5).mono ?_
  rintro x w5 ⟨⟨z5, rfl, hz⟩, h1, hg1⟩
  have HZ5 := Lib.hid hz
  have HM5 := Lib.hid h1
  have HG5 := Lib.hid (HG4.out.trans hg1)
  clear hz h1 hg1 HM4 HG4
  go_wp2_with fail
  refine (rm_number HM5.out res6 H6).mono ?_
  rintro x w6 ⟨⟨z6, rfl, hz⟩, h1, hg1⟩
  have HZ6 := Lib.hid hz
  have HM6 := Lib.hid h1
  have HG6 := Lib.hid (HG5.out.trans hg1)
  clear hz h1 hg1 HM5 HG5
  go_wp2_with fail
  refine (rm_list_entry 8 HM6.out res7 H7 (by omega)).mono ?_
  rintro x w7 ⟨⟨v7, xs7, rfl, how, hoe, hz⟩, h1, hg1⟩
  have HZ7 := Lib.hid hz
  have HO7 := Lib.hid (own_base5 (b := w.heap.size) how HG6.out.size)
  have HQ7 : Hid (∀ e ∈ xs7, w7.ownsRow w.heap.size 55 2 e.2 e.1.b.events.length (evCells e.1.b.events)) := Lib.hid fun e he => own_base5 (hoe e he) HG6.out.size
  obtain ⟨a7, c7, rfl, -⟩ := own_slice how
  have HM7 := Lib.hid h1
  have HG7 := Lib.hid (HG6.out.trans hg1)
  clear hz h1 hg1 how hoe HM6 HG6
  have HT : Hid (∀ ps r, res = Sum.inl (ps, r) → ∃ m : MV, .iface 69 (.agg #[.int .i64 z1, .int .i64 z2, .int .i64 z3, .int .i64 z4, .int .i64 z5, .int .i64 z6, .slice a7 xs7.length c7]) = m.val ∧ m.kind = 7 ∧ m.parts = ps ∧ m.Reads w7) := Lib.hid fun ps r hres => by
    have hcb := HE.out.trans hres
    obtain ⟨p1, r1, q1, e1, h1, rfl⟩ := comb_cons hcb
    obtain ⟨x1, f1, rfl⟩ := as_inl e1
    obtain ⟨p2, r2, q2, e2, h2, rfl⟩ := comb_cons h1
    obtain ⟨x2, f2, rfl⟩ := as_inl e2
    obtain ⟨p3, r3, q3, e3, h3, rfl⟩ := comb_cons h2
    obtain ⟨x3, f3, rfl⟩ := as_inl e3
    obtain ⟨p4, r4, q4, e4, h4, rfl⟩ := comb_cons h3
    obtain ⟨x4, f4, rfl⟩ := as_inl e4
    obtain ⟨p5, r5, q5, e5, h5, rfl⟩ := comb_cons h4
    obtain ⟨x5, f5, rfl⟩ := as_inl e5
    obtain ⟨p6, r6, q6, e6, h6, rfl⟩ := comb_cons h5
    obtain ⟨x6, f6, rfl⟩ := as_inl e6
    obtain ⟨p7, r7, q7, e7, h7, rfl⟩ := comb_cons h6
    obtain ⟨x7, f7, rfl⟩ := as_inl e7
    obtain rfl := comb_nil h7
    obtain rfl := HZ1.out _ _ f1
    obtain rfl := HZ2.out _ _ f2
    obtain rfl := HZ3.out _ _ f3
    obtain rfl := HZ4.out _ _ f4
    obtain rfl := HZ5.out _ _ f5
    obtain rfl := HZ6.out _ _ f6
    have k7 := run_ok (t := .e) (o := (rest res6)) (p := .e x7) (r := r7) (by rw [run_e, H7.out]; exact e7)
    obtain rfl := HZ7.out _ _ f7
    exact ⟨.logs_ z1 z2 z3 z4 z5 z6 xs7 (.slice a7 xs7.length c7), rfl, rfl, rfl, ⟨readsR_own HO7.out (fun e he => ⟨readsE_own (HQ7.out e he), right_i64 (ok_ens k7 e.1 (List.mem_map_of_mem he))⟩), fun e he => right_small (ok_ens k7 e.1 (List.mem_map_of_mem he))⟩⟩
  clear HZ1 HZ2 HZ3 HZ4 HZ5 HZ6 HZ7 H1 H2 H3 H4 H5 H6 H7 HE
  go_wp2
  go_ret
  exact ⟨⟨_, _, rfl, HT.out⟩, by rw [HRR.out]; exact HM7.out, HG7.out⟩

set_option maxHeartbeats 4000000 in
set_option maxRecDepth 100000 in
theorem message_ack {p : Nat} {w : World} {l : List UInt8} (h : RM p (.inl l) w) (res : K.Rd (List M.Pt)) (H : Hid (M.takeS M.takeP (M.shape 8) l = res)) :
    Calls Tryz.prog 30 #[rdP p, .int .u8 8] w (MsgPost p 8 w res) := by
  have hplt := h.lt
  have hmf : ∀ (fn : Fn) (first cap : Array Value) (w : World), (Instr.makeFunc fn first cap).run Tryz.prog w = .ok (.func fn first cap) w := fun _ _ _ _ => rfl
  obtain ⟨res1, H1⟩ : ∃ x, Hid (run M.takeI (.inl l) = x) := ⟨_, Lib.hid rfl⟩
  obtain ⟨res2, H2⟩ : ∃ x, Hid (run M.takeI (rest res1) = x) := ⟨_, Lib.hid rfl⟩
  obtain ⟨res3, H3⟩ : ∃ x, Hid (run M.takeI (rest res2) = x) := ⟨_, Lib.hid rfl⟩
  have hch : Ch (M.shape 8) (.inl l) [M.as .n res1, M.as .n res2, M.as .n res3] (rest (M.as .n res3)) := Ch.cons (x := M.as .n res1) (by rw [run_n, H1.out]) (Ch.cons (x := M.as .n res2) (by rw [run_n, rest_as, H2.out]) (Ch.cons (x := M.as .n res3) (by rw [run_n, rest_as, H3.out]) (Ch.nil _)))
  have hcr := ch_run hch
  rw [rest_as] at hcr
  have HE : Hid (comb [M.as .n res1, M.as .n res2, M.as .n res3] (.inl l) = res) := Lib.hid (by rw [← hcr.1]; exact H.out)
  have HRR : Hid (rest res = rest res3) := Lib.hid (by rw [← HE.out]; exact hcr.2)
  have HM0 := Lib.hid h
  have HG0 : Hid (w.grownBy w (some p)) := Lib.hid (grown_refl _ _)
  clear h H hch hcr
  go_enter Tryz.func30, Tryz.ntmps30
  go_wp2_with fail
  refine (rm_number HM0.out res1 H1).mono ?_
  rintro x w1 ⟨⟨z1, rfl, hz⟩, h1, hg1⟩
  have HZ1 := Lib.hid hz
  have HM1 := Lib.hid h1
  have HG1 := Lib.hid (HG0.out.trans hg1)
  clear hz h1 hg1 HM0 HG0
  go_wp2_with fail
  refine (rm_number HM1.out res2 H2).mono ?_
  rintro x w2 ⟨⟨z2, rfl, hz⟩, h1, hg1⟩
  have HZ2 := Lib.hid hz
  have HM2 := Lib.hid h1
  have HG2 := Lib.hid (HG1.out.trans hg1)
  clear hz h1 hg1 HM1 HG1
  go_wp2_with fail
  refine (rm_number HM2.out res3 H3).mono ?_
  rintro x w3 ⟨⟨z3, rfl, hz⟩, h1, hg1⟩
  have HZ3 := Lib.hid hz
  have HM3 := Lib.hid h1
  have HG3 := Lib.hid (HG2.out.trans hg1)
  clear hz h1 hg1 HM2 HG2
  have HT : Hid (∀ ps r, res = Sum.inl (ps, r) → ∃ m : MV, .iface 51 (.agg #[.int .i64 z1, .int .i64 z2, .int .i64 z3]) = m.val ∧ m.kind = 8 ∧ m.parts = ps ∧ m.Reads w3) := Lib.hid fun ps r hres => by
    have hcb := HE.out.trans hres
    obtain ⟨p1, r1, q1, e1, h1, rfl⟩ := comb_cons hcb
    obtain ⟨x1, f1, rfl⟩ := as_inl e1
    obtain ⟨p2, r2, q2, e2, h2, rfl⟩ := comb_cons h1
    obtain ⟨x2, f2, rfl⟩ := as_inl e2
    obtain ⟨p3, r3, q3, e3, h3, rfl⟩ := comb_cons h2
    obtain ⟨x3, f3, rfl⟩ := as_inl e3
    obtain rfl := comb_nil h3
    obtain rfl := HZ1.out _ _ f1
    obtain rfl := HZ2.out _ _ f2
    obtain rfl := HZ3.out _ _ f3
    exact ⟨.ack_ z1 z2 z3, rfl, rfl, rfl, trivial⟩
  clear HZ1 HZ2 HZ3 H1 H2 H3 HE
  go_wp2
  go_ret
  exact ⟨⟨_, _, rfl, HT.out⟩, by rw [HRR.out]; exact HM3.out, HG3.out⟩

set_option maxHeartbeats 4000000 in
set_option maxRecDepth 100000 in
theorem message_ask {p : Nat} {w : World} {l : List UInt8} (h : RM p (.inl l) w) (res : K.Rd (List M.Pt)) (H : Hid (M.takeS M.takeP (M.shape 9) l = res)) :
    Calls Tryz.prog 30 #[rdP p, .int .u8 9] w (MsgPost p 9 w res) := by
  have hplt := h.lt
  have hmf : ∀ (fn : Fn) (first cap : Array Value) (w : World), (Instr.makeFunc fn first cap).run Tryz.prog w = .ok (.func fn first cap) w := fun _ _ _ _ => rfl
  obtain ⟨res1, H1⟩ : ∃ x, Hid (run M.takeI (.inl l) = x) := ⟨_, Lib.hid rfl⟩
  obtain ⟨res2, H2⟩ : ∃ x, Hid (run M.takeI (rest res1) = x) := ⟨_, Lib.hid rfl⟩
  obtain ⟨res3, H3⟩ : ∃ x, Hid (run M.takeI (rest res2) = x) := ⟨_, Lib.hid rfl⟩
  obtain ⟨res4, H4⟩ : ∃ x, Hid (run M.takeI (rest res3) = x) := ⟨_, Lib.hid rfl⟩
  have hch : Ch (M.shape 9) (.inl l) [M.as .n res1, M.as .n res2, M.as .n res3, M.as .n res4] (rest (M.as .n res4)) := Ch.cons (x := M.as .n res1) (by rw [run_n, H1.out]) (Ch.cons (x := M.as .n res2) (by rw [run_n, rest_as, H2.out]) (Ch.cons (x := M.as .n res3) (by rw [run_n, rest_as, H3.out]) (Ch.cons (x := M.as .n res4) (by rw [run_n, rest_as, H4.out]) (Ch.nil _))))
  have hcr := ch_run hch
  rw [rest_as] at hcr
  have HE : Hid (comb [M.as .n res1, M.as .n res2, M.as .n res3, M.as .n res4] (.inl l) = res) := Lib.hid (by rw [← hcr.1]; exact H.out)
  have HRR : Hid (rest res = rest res4) := Lib.hid (by rw [← HE.out]; exact hcr.2)
  have HM0 := Lib.hid h
  have HG0 : Hid (w.grownBy w (some p)) := Lib.hid (grown_refl _ _)
  clear h H hch hcr
  go_enter Tryz.func30, Tryz.ntmps30
  go_wp2_with fail
  refine (rm_number HM0.out res1 H1).mono ?_
  rintro x w1 ⟨⟨z1, rfl, hz⟩, h1, hg1⟩
  have HZ1 := Lib.hid hz
  have HM1 := Lib.hid h1
  have HG1 := Lib.hid (HG0.out.trans hg1)
  clear hz h1 hg1 HM0 HG0
  go_wp2_with fail
  refine (rm_number HM1.out res2 H2).mono ?_
  rintro x w2 ⟨⟨z2, rfl, hz⟩, h1, hg1⟩
  have HZ2 := Lib.hid hz
  have HM2 := Lib.hid h1
  have HG2 := Lib.hid (HG1.out.trans hg1)
  clear hz h1 hg1 HM1 HG1
  go_wp2_with fail
  refine (rm_number HM2.out res3 H3).mono ?_
  rintro x w3 ⟨⟨z3, rfl, hz⟩, h1, hg1⟩
  have HZ3 := Lib.hid hz
  have HM3 := Lib.hid h1
  have HG3 := Lib.hid (HG2.out.trans hg1)
  clear hz h1 hg1 HM2 HG2
  go_wp2_with fail
  refine (rm_number HM3.out res4 H4).mono ?_
  rintro x w4 ⟨⟨z4, rfl, hz⟩, h1, hg1⟩
  have HZ4 := Lib.hid hz
  have HM4 := Lib.hid h1
  have HG4 := Lib.hid (HG3.out.trans hg1)
  clear hz h1 hg1 HM3 HG3
  have HT : Hid (∀ ps r, res = Sum.inl (ps, r) → ∃ m : MV, .iface 71 (.agg #[.int .i64 z1, .int .i64 z2, .int .i64 z3, .int .i64 z4]) = m.val ∧ m.kind = 9 ∧ m.parts = ps ∧ m.Reads w4) := Lib.hid fun ps r hres => by
    have hcb := HE.out.trans hres
    obtain ⟨p1, r1, q1, e1, h1, rfl⟩ := comb_cons hcb
    obtain ⟨x1, f1, rfl⟩ := as_inl e1
    obtain ⟨p2, r2, q2, e2, h2, rfl⟩ := comb_cons h1
    obtain ⟨x2, f2, rfl⟩ := as_inl e2
    obtain ⟨p3, r3, q3, e3, h3, rfl⟩ := comb_cons h2
    obtain ⟨x3, f3, rfl⟩ := as_inl e3
    obtain ⟨p4, r4, q4, e4, h4, rfl⟩ := comb_cons h3
    obtain ⟨x4, f4, rfl⟩ := as_inl e4
    obtain rfl := comb_nil h4
    obtain rfl := HZ1.out _ _ f1
    obtain rfl := HZ2.out _ _ f2
    obtain rfl := HZ3.out _ _ f3
    obtain rfl := HZ4.out _ _ f4
    exact ⟨.ask_ z1 z2 z3 z4, rfl, rfl, rfl, trivial⟩
  clear HZ1 HZ2 HZ3 HZ4 H1 H2 H3 H4 HE
  go_wp2
  go_ret
  exact ⟨⟨_, _, rfl, HT.out⟩, by rw [HRR.out]; exact HM4.out, HG4.out⟩

set_option maxHeartbeats 4000000 in
set_option maxRecDepth 100000 in
theorem message_told {p : Nat} {w : World} {l : List UInt8} (h : RM p (.inl l) w) (res : K.Rd (List M.Pt)) (H : Hid (M.takeS M.takeP (M.shape 10) l = res)) :
    Calls Tryz.prog 30 #[rdP p, .int .u8 10] w (MsgPost p 10 w res) := by
  have hplt := h.lt
  have hmf : ∀ (fn : Fn) (first cap : Array Value) (w : World), (Instr.makeFunc fn first cap).run Tryz.prog w = .ok (.func fn first cap) w := fun _ _ _ _ => rfl
  obtain ⟨res1, H1⟩ : ∃ x, Hid (run M.takeI (.inl l) = x) := ⟨_, Lib.hid rfl⟩
  obtain ⟨res2, H2⟩ : ∃ x, Hid (run M.takeI (rest res1) = x) := ⟨_, Lib.hid rfl⟩
  obtain ⟨res3, H3⟩ : ∃ x, Hid (run M.takeI (rest res2) = x) := ⟨_, Lib.hid rfl⟩
  obtain ⟨res4, H4⟩ : ∃ x, Hid (run M.takeI (rest res3) = x) := ⟨_, Lib.hid rfl⟩
  have hch : Ch (M.shape 10) (.inl l) [M.as .n res1, M.as .n res2, M.as .n res3, M.as .n res4] (rest (M.as .n res4)) := Ch.cons (x := M.as .n res1) (by rw [run_n, H1.out]) (Ch.cons (x := M.as .n res2) (by rw [run_n, rest_as, H2.out]) (Ch.cons (x := M.as .n res3) (by rw [run_n, rest_as, H3.out]) (Ch.cons (x := M.as .n res4) (by rw [run_n, rest_as, H4.out]) (Ch.nil _))))
  have hcr := ch_run hch
  rw [rest_as] at hcr
  have HE : Hid (comb [M.as .n res1, M.as .n res2, M.as .n res3, M.as .n res4] (.inl l) = res) := Lib.hid (by rw [← hcr.1]; exact H.out)
  have HRR : Hid (rest res = rest res4) := Lib.hid (by rw [← HE.out]; exact hcr.2)
  have HM0 := Lib.hid h
  have HG0 : Hid (w.grownBy w (some p)) := Lib.hid (grown_refl _ _)
  clear h H hch hcr
  go_enter Tryz.func30, Tryz.ntmps30
  go_wp2_with fail
  refine (rm_number HM0.out res1 H1).mono ?_
  rintro x w1 ⟨⟨z1, rfl, hz⟩, h1, hg1⟩
  have HZ1 := Lib.hid hz
  have HM1 := Lib.hid h1
  have HG1 := Lib.hid (HG0.out.trans hg1)
  clear hz h1 hg1 HM0 HG0
  go_wp2_with fail
  refine (rm_number HM1.out res2 H2).mono ?_
  rintro x w2 ⟨⟨z2, rfl, hz⟩, h1, hg1⟩
  have HZ2 := Lib.hid hz
  have HM2 := Lib.hid h1
  have HG2 := Lib.hid (HG1.out.trans hg1)
  clear hz h1 hg1 HM1 HG1
  go_wp2_with fail
  refine (rm_number HM2.out res3 H3).mono ?_
  rintro x w3 ⟨⟨z3, rfl, hz⟩, h1, hg1⟩
  have HZ3 := Lib.hid hz
  have HM3 := Lib.hid h1
  have HG3 := Lib.hid (HG2.out.trans hg1)
  clear hz h1 hg1 HM2 HG2
  go_wp2_with fail
  refine (rm_number HM3.out res4 H4).mono ?_
  rintro x w4 ⟨⟨z4, rfl, hz⟩, h1, hg1⟩
  have HZ4 := Lib.hid hz
  have HM4 := Lib.hid h1
  have HG4 := Lib.hid (HG3.out.trans hg1)
  clear hz h1 hg1 HM3 HG3
  have HT : Hid (∀ ps r, res = Sum.inl (ps, r) → ∃ m : MV, .iface 73 (.agg #[.int .i64 z1, .int .i64 z2, .int .i64 z3, .int .i64 z4]) = m.val ∧ m.kind = 10 ∧ m.parts = ps ∧ m.Reads w4) := Lib.hid fun ps r hres => by
    have hcb := HE.out.trans hres
    obtain ⟨p1, r1, q1, e1, h1, rfl⟩ := comb_cons hcb
    obtain ⟨x1, f1, rfl⟩ := as_inl e1
    obtain ⟨p2, r2, q2, e2, h2, rfl⟩ := comb_cons h1
    obtain ⟨x2, f2, rfl⟩ := as_inl e2
    obtain ⟨p3, r3, q3, e3, h3, rfl⟩ := comb_cons h2
    obtain ⟨x3, f3, rfl⟩ := as_inl e3
    obtain ⟨p4, r4, q4, e4, h4, rfl⟩ := comb_cons h3
    obtain ⟨x4, f4, rfl⟩ := as_inl e4
    obtain rfl := comb_nil h4
    obtain rfl := HZ1.out _ _ f1
    obtain rfl := HZ2.out _ _ f2
    obtain rfl := HZ3.out _ _ f3
    obtain rfl := HZ4.out _ _ f4
    exact ⟨.told_ z1 z2 z3 z4, rfl, rfl, rfl, trivial⟩
  clear HZ1 HZ2 HZ3 HZ4 H1 H2 H3 H4 HE
  go_wp2
  go_ret
  exact ⟨⟨_, _, rfl, HT.out⟩, by rw [HRR.out]; exact HM4.out, HG4.out⟩

set_option maxHeartbeats 4000000 in
set_option maxRecDepth 100000 in
theorem message_append {p : Nat} {w : World} {l : List UInt8} (h : RM p (.inl l) w) (res : K.Rd (List M.Pt)) (H : Hid (M.takeS M.takeP (M.shape 11) l = res)) :
    Calls Tryz.prog 30 #[rdP p, .int .u8 11] w (MsgPost p 11 w res) := by
  have hplt := h.lt
  have hmf : ∀ (fn : Fn) (first cap : Array Value) (w : World), (Instr.makeFunc fn first cap).run Tryz.prog w = .ok (.func fn first cap) w := fun _ _ _ _ => rfl
  obtain ⟨res1, H1⟩ : ∃ x, Hid (run M.takeI (.inl l) = x) := ⟨_, Lib.hid rfl⟩
  obtain ⟨res2, H2⟩ : ∃ x, Hid (run E.takeBat (rest res1) = x) := ⟨_, Lib.hid rfl⟩
  have hch : Ch (M.shape 11) (.inl l) [M.as .n res1, M.as .b res2] (rest (M.as .b res2)) := Ch.cons (x := M.as .n res1) (by rw [run_n, H1.out]) (Ch.cons (x := M.as .b res2) (by rw [run_b, rest_as, H2.out]) (Ch.nil _))
  have hcr := ch_run hch
  rw [rest_as] at hcr
  have HE : Hid (comb [M.as .n res1, M.as .b res2] (.inl l) = res) := Lib.hid (by rw [← hcr.1]; exact H.out)
  have HRR : Hid (rest res = rest res2) := Lib.hid (by rw [← HE.out]; exact hcr.2)
  have HM0 := Lib.hid h
  have HG0 : Hid (w.grownBy w (some p)) := Lib.hid (grown_refl _ _)
  clear h H hch hcr
  go_enter Tryz.func30, Tryz.ntmps30
  go_wp2_with fail
  refine (rm_number HM0.out res1 H1).mono ?_
  rintro x w1 ⟨⟨z1, rfl, hz⟩, h1, hg1⟩
  have HZ1 := Lib.hid hz
  have HM1 := Lib.hid h1
  have HG1 := Lib.hid (HG0.out.trans hg1)
  clear hz h1 hg1 HM0 HG0
  go_wp2_with fail
  refine (rm_batch0 HM1.out res2 H2).mono ?_
  rintro x w2 ⟨⟨⟨st, ex, se, sq, evs⟩, v2, rfl, ⟨a2, n2, c2, rfl⟩, hz⟩, h1, hg1⟩
  have HZ2 := Lib.hid fun a r e => And.intro (hz a r e).1 (own_base5 (b := w.heap.size) (hz a r e).2 HG1.out.size)
  dsimp only [batV]
  have HM2 := Lib.hid h1
  have HG2 := Lib.hid (HG1.out.trans hg1)
  clear hz h1 hg1 HM1 HG1
  have HT : Hid (∀ ps r, res = Sum.inl (ps, r) → ∃ m : MV, .iface 75 (.agg #[.int .i64 z1, .string (B st), .int .i64 ex, .int .i64 se, .int .i64 sq, .slice a2 n2 c2]) = m.val ∧ m.kind = 11 ∧ m.parts = ps ∧ m.Reads w2) := Lib.hid fun ps r hres => by
    have hcb := HE.out.trans hres
    obtain ⟨p1, r1, q1, e1, h1, rfl⟩ := comb_cons hcb
    obtain ⟨x1, f1, rfl⟩ := as_inl e1
    obtain ⟨p2, r2, q2, e2, h2, rfl⟩ := comb_cons h1
    obtain ⟨x2, f2, rfl⟩ := as_inl e2
    obtain rfl := comb_nil h2
    obtain rfl := HZ1.out _ _ f1
    have k2 := run_ok (t := .b) (o := (rest res1)) (p := .b x2) (r := r2) (by rw [run_b, H2.out]; exact e2)
    obtain ⟨g2, o2⟩ := HZ2.out _ _ f2
    subst g2
    exact ⟨.append_ z1 ⟨st, ex, se, sq, evs⟩ (.slice a2 n2 c2), rfl, rfl, rfl, ⟨readsE_own o2, fits_small (ok_bat k2)⟩⟩
  clear HZ1 HZ2 H1 H2 HE
  go_wp2
  go_ret
  exact ⟨⟨_, _, rfl, HT.out⟩, by rw [HRR.out]; exact HM2.out, HG2.out⟩

set_option maxHeartbeats 4000000 in
set_option maxRecDepth 100000 in
theorem message_read {p : Nat} {w : World} {l : List UInt8} (h : RM p (.inl l) w) (res : K.Rd (List M.Pt)) (H : Hid (M.takeS M.takeP (M.shape 12) l = res)) :
    Calls Tryz.prog 30 #[rdP p, .int .u8 12] w (MsgPost p 12 w res) := by
  have hplt := h.lt
  have hmf : ∀ (fn : Fn) (first cap : Array Value) (w : World), (Instr.makeFunc fn first cap).run Tryz.prog w = .ok (.func fn first cap) w := fun _ _ _ _ => rfl
  obtain ⟨res1, H1⟩ : ∃ x, Hid (run M.takeI (.inl l) = x) := ⟨_, Lib.hid rfl⟩
  obtain ⟨res2, H2⟩ : ∃ x, Hid (run (fun l => N.takeT l ((200 : Nat) : Int)) (rest res1) = x) := ⟨_, Lib.hid rfl⟩
  obtain ⟨res3, H3⟩ : ∃ x, Hid (run M.takeI (rest res2) = x) := ⟨_, Lib.hid rfl⟩
  have hch : Ch (M.shape 12) (.inl l) [M.as .n res1, M.as .s res2, M.as .n res3] (rest (M.as .n res3)) := Ch.cons (x := M.as .n res1) (by rw [run_n, H1.out]) (Ch.cons (x := M.as .s res2) (by rw [run_s, rest_as, H2.out]) (Ch.cons (x := M.as .n res3) (by rw [run_n, rest_as, H3.out]) (Ch.nil _)))
  have hcr := ch_run hch
  rw [rest_as] at hcr
  have HE : Hid (comb [M.as .n res1, M.as .s res2, M.as .n res3] (.inl l) = res) := Lib.hid (by rw [← hcr.1]; exact H.out)
  have HRR : Hid (rest res = rest res3) := Lib.hid (by rw [← HE.out]; exact hcr.2)
  have HM0 := Lib.hid h
  have HG0 : Hid (w.grownBy w (some p)) := Lib.hid (grown_refl _ _)
  clear h H hch hcr
  go_enter Tryz.func30, Tryz.ntmps30
  go_wp2_with fail
  refine (rm_number HM0.out res1 H1).mono ?_
  rintro x w1 ⟨⟨z1, rfl, hz⟩, h1, hg1⟩
  have HZ1 := Lib.hid hz
  have HM1 := Lib.hid h1
  have HG1 := Lib.hid (HG0.out.trans hg1)
  clear hz h1 hg1 HM0 HG0
  go_wp2_with fail
  refine (rm_text HM1.out res2 H2).mono ?_
  rintro x w2 ⟨⟨z2, rfl, hz⟩, h1, hg1⟩
  have HZ2 := Lib.hid hz
  have HM2 := Lib.hid h1
  have HG2 := Lib.hid (HG1.out.trans hg1)
  clear hz h1 hg1 HM1 HG1
  go_wp2_with fail
  refine (rm_number HM2.out res3 H3).mono ?_
  rintro x w3 ⟨⟨z3, rfl, hz⟩, h1, hg1⟩
  have HZ3 := Lib.hid hz
  have HM3 := Lib.hid h1
  have HG3 := Lib.hid (HG2.out.trans hg1)
  clear hz h1 hg1 HM2 HG2
  have HT : Hid (∀ ps r, res = Sum.inl (ps, r) → ∃ m : MV, .iface 77 (.agg #[.int .i64 z1, .string (B z2), .int .i64 z3]) = m.val ∧ m.kind = 12 ∧ m.parts = ps ∧ m.Reads w3) := Lib.hid fun ps r hres => by
    have hcb := HE.out.trans hres
    obtain ⟨p1, r1, q1, e1, h1, rfl⟩ := comb_cons hcb
    obtain ⟨x1, f1, rfl⟩ := as_inl e1
    obtain ⟨p2, r2, q2, e2, h2, rfl⟩ := comb_cons h1
    obtain ⟨x2, f2, rfl⟩ := as_inl e2
    obtain ⟨p3, r3, q3, e3, h3, rfl⟩ := comb_cons h2
    obtain ⟨x3, f3, rfl⟩ := as_inl e3
    obtain rfl := comb_nil h3
    obtain rfl := HZ1.out _ _ f1
    have k2 := run_ok (t := .s) (o := (rest res1)) (p := .s x2) (r := r2) (by rw [run_s, H2.out]; exact e2)
    obtain rfl := HZ2.out _ _ f2
    obtain rfl := HZ3.out _ _ f3
    exact ⟨.read_ z1 z3 z2, rfl, rfl, rfl, (show z2.length ≤ 9223372036854775807 by have := ok_txt k2; omega)⟩
  clear HZ1 HZ2 HZ3 H1 H2 H3 HE
  go_wp2
  go_ret
  exact ⟨⟨_, _, rfl, HT.out⟩, by rw [HRR.out]; exact HM3.out, HG3.out⟩

set_option maxHeartbeats 4000000 in
set_option maxRecDepth 100000 in
theorem message_reply {p : Nat} {w : World} {l : List UInt8} (h : RM p (.inl l) w) (res : K.Rd (List M.Pt)) (H : Hid (M.takeS M.takeP (M.shape 13) l = res)) :
    Calls Tryz.prog 30 #[rdP p, .int .u8 13] w (MsgPost p 13 w res) := by
  have hplt := h.lt
  have hmf : ∀ (fn : Fn) (first cap : Array Value) (w : World), (Instr.makeFunc fn first cap).run Tryz.prog w = .ok (.func fn first cap) w := fun _ _ _ _ => rfl
  obtain ⟨res1, H1⟩ : ∃ x, Hid (run M.takeI (.inl l) = x) := ⟨_, Lib.hid rfl⟩
  obtain ⟨res2, H2⟩ : ∃ x, Hid (run M.takeI (rest res1) = x) := ⟨_, Lib.hid rfl⟩
  obtain ⟨res3, H3⟩ : ∃ x, Hid (run M.takeI (rest res2) = x) := ⟨_, Lib.hid rfl⟩
  obtain ⟨res4, H4⟩ : ∃ x, Hid (run M.takeI (rest res3) = x) := ⟨_, Lib.hid rfl⟩
  obtain ⟨res5, H5⟩ : ∃ x, Hid (run M.takeI (rest res4) = x) := ⟨_, Lib.hid rfl⟩
  obtain ⟨res6, H6⟩ : ∃ x, Hid (run M.takeI (rest res5) = x) := ⟨_, Lib.hid rfl⟩
  have hch : Ch (M.shape 13) (.inl l) [M.as .n res1, M.as .n res2, M.as .n res3, M.as .n res4, M.as .n res5, M.as .n res6] (rest (M.as .n res6)) := Ch.cons (x := M.as .n res1) (by rw [run_n, H1.out]) (Ch.cons (x := M.as .n res2) (by rw [run_n, rest_as, H2.out]) (Ch.cons (x := M.as .n res3) (by rw [run_n, rest_as, H3.out]) (Ch.cons (x := M.as .n res4) (by rw [run_n, rest_as, H4.out]) (Ch.cons (x := M.as .n res5) (by rw [run_n, rest_as, H5.out]) (Ch.cons (x := M.as .n res6) (by rw [run_n, rest_as, H6.out]) (Ch.nil _))))))
  have hcr := ch_run hch
  rw [rest_as] at hcr
  have HE : Hid (comb [M.as .n res1, M.as .n res2, M.as .n res3, M.as .n res4, M.as .n res5, M.as .n res6] (.inl l) = res) := Lib.hid (by rw [← hcr.1]; exact H.out)
  have HRR : Hid (rest res = rest res6) := Lib.hid (by rw [← HE.out]; exact hcr.2)
  have HM0 := Lib.hid h
  have HG0 : Hid (w.grownBy w (some p)) := Lib.hid (grown_refl _ _)
  clear h H hch hcr
  go_enter Tryz.func30, Tryz.ntmps30
  go_wp2_with fail
  refine (rm_number HM0.out res1 H1).mono ?_
  rintro x w1 ⟨⟨z1, rfl, hz⟩, h1, hg1⟩
  have HZ1 := Lib.hid hz
  have HM1 := Lib.hid h1
  have HG1 := Lib.hid (HG0.out.trans hg1)
  clear hz h1 hg1 HM0 HG0
  go_wp2_with fail
  refine (rm_number HM1.out res2 H2).mono ?_
  rintro x w2 ⟨⟨z2, rfl, hz⟩, h1, hg1⟩
  have HZ2 := Lib.hid hz
  have HM2 := Lib.hid h1
  have HG2 := Lib.hid (HG1.out.trans hg1)
  clear hz h1 hg1 HM1 HG1
  go_wp2_with fail
  refine (rm_outcome HM2.out res3 res4 res5 res6 H3 H4 H5 H6).mono ?_
  rintro x w3 ⟨⟨z3, z4, z5, z6, rfl, hz3, hz4, hz5, hz6⟩, h1, hg1⟩
  have HZ3 := Lib.hid hz3
  have HZ4 := Lib.hid hz4
  have HZ5 := Lib.hid hz5
  have HZ6 := Lib.hid hz6
  have HM3 := Lib.hid h1
  have HG3 := Lib.hid (HG2.out.trans hg1)
  clear hz3 hz4 hz5 hz6 h1 hg1 HM2 HG2
  have HT : Hid (∀ ps r, res = Sum.inl (ps, r) → ∃ m : MV, .iface 81 (.agg #[.int .i64 z1, .int .i64 z2, .int .i64 z3, .int .i64 z4, .int .i64 z5, .int .i64 z6]) = m.val ∧ m.kind = 13 ∧ m.parts = ps ∧ m.Reads w3) := Lib.hid fun ps r hres => by
    have hcb := HE.out.trans hres
    obtain ⟨p1, r1, q1, e1, h1, rfl⟩ := comb_cons hcb
    obtain ⟨x1, f1, rfl⟩ := as_inl e1
    obtain ⟨p2, r2, q2, e2, h2, rfl⟩ := comb_cons h1
    obtain ⟨x2, f2, rfl⟩ := as_inl e2
    obtain ⟨p3, r3, q3, e3, h3, rfl⟩ := comb_cons h2
    obtain ⟨x3, f3, rfl⟩ := as_inl e3
    obtain ⟨p4, r4, q4, e4, h4, rfl⟩ := comb_cons h3
    obtain ⟨x4, f4, rfl⟩ := as_inl e4
    obtain ⟨p5, r5, q5, e5, h5, rfl⟩ := comb_cons h4
    obtain ⟨x5, f5, rfl⟩ := as_inl e5
    obtain ⟨p6, r6, q6, e6, h6, rfl⟩ := comb_cons h5
    obtain ⟨x6, f6, rfl⟩ := as_inl e6
    obtain rfl := comb_nil h6
    obtain rfl := HZ1.out _ _ f1
    obtain rfl := HZ2.out _ _ f2
    obtain rfl := HZ3.out _ _ f3
    obtain rfl := HZ4.out _ _ f4
    obtain rfl := HZ5.out _ _ f5
    obtain rfl := HZ6.out _ _ f6
    exact ⟨.reply_ z1 z2 z3 z4 z5 z6, rfl, rfl, rfl, trivial⟩
  clear HZ1 HZ2 HZ3 HZ4 HZ5 HZ6 H1 H2 H3 H4 H5 H6 HE
  go_wp2
  go_ret
  exact ⟨⟨_, _, rfl, HT.out⟩, by rw [HRR.out]; exact HM3.out, HG3.out⟩

set_option maxHeartbeats 4000000 in
set_option maxRecDepth 100000 in
theorem message_result {p : Nat} {w : World} {l : List UInt8} (h : RM p (.inl l) w) (res : K.Rd (List M.Pt)) (H : Hid (M.takeS M.takeP (M.shape 14) l = res)) :
    Calls Tryz.prog 30 #[rdP p, .int .u8 14] w (MsgPost p 14 w res) := by
  have hplt := h.lt
  have hmf : ∀ (fn : Fn) (first cap : Array Value) (w : World), (Instr.makeFunc fn first cap).run Tryz.prog w = .ok (.func fn first cap) w := fun _ _ _ _ => rfl
  obtain ⟨res1, H1⟩ : ∃ x, Hid (run M.takeI (.inl l) = x) := ⟨_, Lib.hid rfl⟩
  obtain ⟨res2, H2⟩ : ∃ x, Hid (run M.takeI (rest res1) = x) := ⟨_, Lib.hid rfl⟩
  obtain ⟨res3, H3⟩ : ∃ x, Hid (run M.takeI (rest res2) = x) := ⟨_, Lib.hid rfl⟩
  obtain ⟨res4, H4⟩ : ∃ x, Hid (run (M.takeC 16 E.takeEv) (rest res3) = x) := ⟨_, Lib.hid rfl⟩
  have hch : Ch (M.shape 14) (.inl l) [M.as .n res1, M.as .n res2, M.as .n res3, M.as .v res4] (rest (M.as .v res4)) := Ch.cons (x := M.as .n res1) (by rw [run_n, H1.out]) (Ch.cons (x := M.as .n res2) (by rw [run_n, rest_as, H2.out]) (Ch.cons (x := M.as .n res3) (by rw [run_n, rest_as, H3.out]) (Ch.cons (x := M.as .v res4) (by rw [run_v, rest_as, H4.out]) (Ch.nil _))))
  have hcr := ch_run hch
  rw [rest_as] at hcr
  have HE : Hid (comb [M.as .n res1, M.as .n res2, M.as .n res3, M.as .v res4] (.inl l) = res) := Lib.hid (by rw [← hcr.1]; exact H.out)
  have HRR : Hid (rest res = rest res4) := Lib.hid (by rw [← HE.out]; exact hcr.2)
  have HM0 := Lib.hid h
  have HG0 : Hid (w.grownBy w (some p)) := Lib.hid (grown_refl _ _)
  clear h H hch hcr
  go_enter Tryz.func30, Tryz.ntmps30
  go_wp2_with fail
  refine (rm_number HM0.out res1 H1).mono ?_
  rintro x w1 ⟨⟨z1, rfl, hz⟩, h1, hg1⟩
  have HZ1 := Lib.hid hz
  have HM1 := Lib.hid h1
  have HG1 := Lib.hid (HG0.out.trans hg1)
  clear hz h1 hg1 HM0 HG0
  go_wp2_with fail
  refine (rm_number HM1.out res2 H2).mono ?_
  rintro x w2 ⟨⟨z2, rfl, hz⟩, h1, hg1⟩
  have HZ2 := Lib.hid hz
  have HM2 := Lib.hid h1
  have HG2 := Lib.hid (HG1.out.trans hg1)
  clear hz h1 hg1 HM1 HG1
  go_wp2_with fail
  refine (rm_number HM2.out res3 H3).mono ?_
  rintro x w3 ⟨⟨z3, rfl, hz⟩, h1, hg1⟩
  have HZ3 := Lib.hid hz
  have HM3 := Lib.hid h1
  have HG3 := Lib.hid (HG2.out.trans hg1)
  clear hz h1 hg1 HM2 HG2
  go_wp2_with fail
  refine (rm_list_event 16 HM3.out res4 H4 (by omega)).mono ?_
  rintro x w4 ⟨⟨v4, xs4, rfl, how, hz⟩, h1, hg1⟩
  have HZ4 := Lib.hid hz
  have HO4 := Lib.hid (own_base5 (b := w.heap.size) how HG3.out.size)
  obtain ⟨a4, c4, rfl, -⟩ := own_slice how
  have HM4 := Lib.hid h1
  have HG4 := Lib.hid (HG3.out.trans hg1)
  clear hz h1 hg1 how HM3 HG3
  have HT : Hid (∀ ps r, res = Sum.inl (ps, r) → ∃ m : MV, .iface 83 (.agg #[.int .i64 z1, .int .i64 z2, .int .i64 z3, .slice a4 xs4.length c4]) = m.val ∧ m.kind = 14 ∧ m.parts = ps ∧ m.Reads w4) := Lib.hid fun ps r hres => by
    have hcb := HE.out.trans hres
    obtain ⟨p1, r1, q1, e1, h1, rfl⟩ := comb_cons hcb
    obtain ⟨x1, f1, rfl⟩ := as_inl e1
    obtain ⟨p2, r2, q2, e2, h2, rfl⟩ := comb_cons h1
    obtain ⟨x2, f2, rfl⟩ := as_inl e2
    obtain ⟨p3, r3, q3, e3, h3, rfl⟩ := comb_cons h2
    obtain ⟨x3, f3, rfl⟩ := as_inl e3
    obtain ⟨p4, r4, q4, e4, h4, rfl⟩ := comb_cons h3
    obtain ⟨x4, f4, rfl⟩ := as_inl e4
    obtain rfl := comb_nil h4
    obtain rfl := HZ1.out _ _ f1
    obtain rfl := HZ2.out _ _ f2
    obtain rfl := HZ3.out _ _ f3
    have k4 := run_ok (t := .v) (o := (rest res3)) (p := .v x4) (r := r4) (by rw [run_v, H4.out]; exact e4)
    obtain rfl := HZ4.out _ _ f4
    exact ⟨.result_ z1 z2 z3 xs4 (.slice a4 xs4.length c4), rfl, rfl, rfl, ⟨readsE_own HO4.out, fun e he => by have := E.right_bd (ok_evs k4 e he); omega⟩⟩
  clear HZ1 HZ2 HZ3 HZ4 H1 H2 H3 H4 HE
  go_wp2
  go_ret
  exact ⟨⟨_, _, rfl, HT.out⟩, by rw [HRR.out]; exact HM4.out, HG4.out⟩
end Go.Proofs.YtljcgpdjhjkciaaGreat
namespace Go.Proofs.YtljcgpdjhjkciaaGreat
open Go.RowKit
attribute [local go_sem] ext_Bd ext_Bl ext_Bt toList_B add_B size_B get_Bt

theorem MV.reads_below {w w' : World} {m : MV} (h : m.Reads w) (hb : Below w.heap.size w w') : m.Reads w' := by
  cases m with
  | beat_ n1 n2 n3 => exact trivial
  | join_ n1 n2 => exact trivial
  | lease_ n1 n2 => exact trivial
  | view_ n1 l1 v1 l2 v2 l3 v3 => exact ⟨readsI_below h.1 hb, readsI_below h.2.1 hb, readsI_below h.2.2 hb⟩
  | where_ n1 => exact trivial
  | have_ n1 n2 n3 l1 v1 => exact readsM_below h hb
  | logs_ n1 n2 n3 n4 n5 n6 l1 v1 => exact ⟨readsR_below h.1 hb, h.2⟩
  | ack_ n1 n2 n3 => exact trivial
  | ask_ n1 n2 n3 n4 => exact trivial
  | told_ n1 n2 n3 n4 => exact trivial
  | append_ n1 bt v1 => exact ⟨readsE_below h.1 hb, h.2⟩
  | read_ n1 n2 s => exact h
  | reply_ n1 n2 n3 n4 n5 n6 => exact trivial
  | result_ n1 n2 n3 l1 v1 => exact ⟨readsE_below h.1 hb, h.2⟩
theorem shape_none {c : Nat} (h : M.shape c = []) (_hc : c < 256) : c = 0 ∨ 14 < c := by
  match c, h with
  | 0, _ => exact .inl rfl
  | c + 15, _ => exact .inr (by omega)
theorem message_at {p : Nat} {w : World} {l : List UInt8} (c : Nat) (hc : M.shape c ≠ []) (h : RM p (.inl l) w) (res : K.Rd (List M.Pt)) (H : Hid (M.takeS M.takeP (M.shape c) l = res)) :
    Calls Tryz.prog 30 #[rdP p, .int .u8 c] w (MsgPost p c w res) := by
  match c, hc, H with
  | 0, hc, _ => exact absurd rfl hc
  | 1, _, H => exact message_beat h res H
  | 2, _, H => exact message_join h res H
  | 3, _, H => exact message_lease h res H
  | 4, _, H => exact message_view h res H
  | 5, _, H => exact message_where h res H
  | 6, _, H => exact message_have h res H
  | 7, _, H => exact message_logs h res H
  | 8, _, H => exact message_ack h res H
  | 9, _, H => exact message_ask h res H
  | 10, _, H => exact message_told h res H
  | 11, _, H => exact message_append h res H
  | 12, _, H => exact message_read h res H
  | 13, _, H => exact message_reply h res H
  | 14, _, H => exact message_result h res H
  | c + 15, hc, _ => exact absurd rfl hc
/-- What Take answers. -/
def TakePost (w : World) (o : Sum M.Msg Nat) (x : Ending) (w' : World) : Prop :=
  Below w.heap.size w w' ∧ match o with
    | .inl g => ∃ m : MV, x = .returned (.tuple #[m.val, .int .i64 0]) ∧ m.kind = g.kind ∧ m.parts = g.parts ∧ m.Reads w'
    | .inr e => x = .returned (.tuple #[.nilIface, .int .i64 (e : Int)])
theorem take_none {c : UInt8} {r : List UInt8} (h : M.shape c.toNat = []) : M.takeMsg (c :: r) = Sum.inr 2 := by
  unfold M.takeMsg
  dsimp only
  rw [if_pos h]
theorem take_err {c : UInt8} {r : List UInt8} {e : Nat} (h : M.shape c.toNat ≠ []) (h2 : M.takeS M.takeP (M.shape c.toNat) r = Sum.inr e) : M.takeMsg (c :: r) = Sum.inr e := by
  unfold M.takeMsg
  dsimp only
  rw [if_neg h, h2]
theorem take_got {c : UInt8} {r q : List UInt8} {ps : List M.Pt} (h : M.shape c.toNat ≠ []) (h2 : M.takeS M.takeP (M.shape c.toNat) r = Sum.inl (ps, q)) : M.takeMsg (c :: r) = if ps.all M.rightP = true ∧ q = [] then Sum.inl ⟨c.toNat, ps⟩ else Sum.inr 2 := by
  unfold M.takeMsg
  dsimp only
  rw [if_neg h, h2]
theorem iface_ne (W : World) (u : TypeId) (v : Value) : (binOp .eql 34 (.iface u v) .nilIface).run Tryz.prog W = .ok (.bool false) W := not_nil W u v

set_option maxHeartbeats 4000000 in
set_option maxRecDepth 100000 in
theorem MTake_at (s : List UInt8) (o : Sum M.Msg Nat) (w : World) (hs : s.length ≤ 1000000) (H : Hid (M.takeMsg s = o)) :
    Calls Tryz.prog 14 #[.string (B s)] w (TakePost w o) := by
  have hnn := not_nil
  have hin := is_nil
  match s, hs, H with
  | [], _, H =>
    have e := H.out
    obtain rfl : o = Sum.inr 3 := e.symm
    clear H e
    go_enter Tryz.func14, Tryz.ntmps14
    go_wp2
    go_ret2
    exact ⟨Below.refl _ _, rfl⟩
  | c :: r, hs, H =>
    have hse : (c :: r).isEmpty = false := rfl
    have hl1 : (1 : Int) ≤ ((c :: r).length : Int) := by simp only [List.length_cons]; omega
    have hd : (c :: r).tail = r := rfl
    have hg0 : N.bt (c :: r) 0 = c.toNat := rfl
    have hrl : r.length ≤ 1000000 := by simp at hs; omega
    obtain ⟨k, HK⟩ : ∃ k, Hid (c.toNat = k) := ⟨_, Lib.hid rfl⟩
    have hk256 : k < 256 := by rw [← HK.out]; exact c.toNat_lt
    rw [HK.out] at hg0
    obtain ⟨s, HS⟩ : ∃ s, Hid (c :: r = s) := ⟨_, Lib.hid rfl⟩
    have HN : Hid (M.shape k = [] → o = Sum.inr 2) := Lib.hid fun h => by rw [← H.out]; exact take_none (by rw [HK.out]; exact h)
    have HER : Hid (∀ e, M.shape k ≠ [] → M.takeS M.takeP (M.shape k) r = Sum.inr e → o = Sum.inr e) := Lib.hid fun e h h2 => by rw [← H.out]; exact take_err (by rw [HK.out]; exact h) (by rw [HK.out]; exact h2)
    have HGT : Hid (∀ ps q, M.shape k ≠ [] → M.takeS M.takeP (M.shape k) r = Sum.inl (ps, q) → o = if ps.all M.rightP = true ∧ q = [] then Sum.inl ⟨k, ps⟩ else Sum.inr 2) := Lib.hid fun ps q h h2 => by rw [← H.out, ← HK.out]; exact take_got (by rw [HK.out]; exact h) (by rw [HK.out]; exact h2)
    rw [HS.out] at hse hl1 hd hg0 ⊢
    have HM0 : Hid (RM w.heap.size (.inl r) (w.alloc (.cells #[.string (B s.tail), .int .i64 0] 101))) := Lib.hid ⟨r, 0, by rw [hd]; exact new_at rfl, hrl, rfl, rfl⟩
    have HB0 := Lib.hid ((Below.refl _ w).alloc (Nat.le_refl _) (.cells #[.string (B s.tail), .int .i64 0] 101))
    clear H HS HK hs hd
    by_cases hsh : M.shape k = []
    · have HO := Lib.hid (HN.out hsh)
      have hkk := shape_none hsh hk256
      have HKK := Lib.hid hkk
      clear hsh hkk HER HGT HN
      go_enter Tryz.func14, Tryz.ntmps14
      go_wp2_with fail
      refine (message_none (p := w.heap.size) k HKK.out).mono ?_
      rintro x w1 ⟨rfl, rfl⟩
      go_wp2
      go_ret2
      rw [HO.out]
      exact ⟨HB0.out, rfl⟩
    · obtain ⟨res, HR⟩ : ∃ x, Hid (M.takeS M.takeP (M.shape k) r = x) := ⟨_, Lib.hid rfl⟩
      have HSH := Lib.hid hsh
      clear hsh HN
      go_enter Tryz.func14, Tryz.ntmps14
      go_wp2_with fail
      refine (message_at k HSH.out HM0.out res HR).mono ?_
      rintro x w1 ⟨⟨u, z, rfl, hm⟩, hrm, hg⟩
      have HBW : Hid (Below w.heap.size w w1) := Lib.hid (HB0.out.grown hg HB0.out.size (fun j hj => by cases hj; exact Nat.le_refl _))
      clear hg HB0 HM0
      rcases res with ⟨ps, q⟩ | e
      · obtain ⟨m, hmv, hk, hp, hrd⟩ := hm ps q rfl
        obtain ⟨left, err, hc, hl, rfl, rfl⟩ := hrm
        have HO := Lib.hid (HGT.out ps left HSH.out HR.out)
        have HRD := Lib.hid hrd
        have HKP : Hid (m.kind = k ∧ m.parts = ps) := Lib.hid ⟨hk, hp⟩
        have HMV := Lib.hid hmv
        obtain ⟨b, HBB⟩ : ∃ b, Hid (m.right = b) := ⟨_, Lib.hid rfl⟩
        have HCR : Hid (Calls Tryz.prog 8 #[.iface u z] w1 fun x w' => x = .returned (.bool b) ∧ Below w1.heap.size w1 w') := Lib.hid (by rw [hmv]; exact MRight_at m b w1 hrd HBB)
        have HPR : Hid (ps.all M.rightP = b) := Lib.hid (by rw [← HBB.out, ← hp]; rfl)
        have HC := Lib.hid hc
        obtain ⟨c0, c1, l0, l1⟩ := hc.cells
        clear hm hmv hk hp hrd hc HGT HER HR HSH HBB
        go_wp2_with fail
        refine HCR.out.mono ?_
        rintro x w2 ⟨rfl, hb2⟩
        have hc2 := HC.out.low hb2
        obtain ⟨d0, d1, m0, m1⟩ := hc2.cells
        have HB2 := Lib.hid (HBW.out.trans (hb2.mono HBW.out.size))
        have HRD2 := Lib.hid (MV.reads_below HRD.out hb2)
        clear hb2 hc2 HC HRD HBW
        cases b
        · have HOO := Lib.hid (show o = Sum.inr 2 by rw [HO.out, if_neg (fun h => by rw [HPR.out] at h; exact absurd h.1 (by decide))])
          go_wp2
          go_ret2
          rw [HOO.out]
          exact ⟨HB2.out, rfl⟩
        · by_cases hq : left = []
          · have hqe : left.isEmpty = true := by rw [hq]; rfl
            have HOO := Lib.hid (show o = Sum.inl ⟨k, ps⟩ by rw [HO.out, if_pos ⟨HPR.out, hq⟩])
            clear hq
            go_wp2
            go_ret2
            rw [HOO.out]
            exact ⟨HB2.out, m, by rw [← HMV.out]; rfl, HKP.out.1, HKP.out.2, HRD2.out⟩
          · have hqe : left.isEmpty = false := by cases left <;> simp at hq ⊢
            have HOO := Lib.hid (show o = Sum.inr 2 by rw [HO.out, if_neg (fun h => hq h.2)])
            clear hq
            go_wp2
            go_ret2
            rw [HOO.out]
            exact ⟨HB2.out, rfl⟩
      · obtain ⟨left, err, hc, hl, rfl, hpos⟩ := hrm
        have HO := Lib.hid (HER.out err HSH.out HR.out)
        obtain ⟨hp1, hp2⟩ := err_bd hpos
        obtain ⟨c0, c1, l0, l1⟩ := hc.cells
        clear hm hc HGT HER HR HSH
        go_wp2
        go_quiet (fail)
        go_wp2
        go_ret2
        rw [HO.out]
        exact ⟨below_quiet HBW.out ⟨_, rfl⟩, rfl⟩
end Go.Proofs.YtljcgpdjhjkciaaGreat
