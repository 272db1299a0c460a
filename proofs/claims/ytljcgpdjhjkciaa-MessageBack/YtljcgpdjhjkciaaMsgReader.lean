/-
  The reader of package message: its two cells, and the methods that take numbers and texts.
-/
import Derived.Test.YtljcgpdjhjkciaaMsgPut
import Derived.Test.YtljcgpdjhjkciaaNumTake2
import Derived.Deep.DeepCutAuto
namespace Go.Proofs.Ytljcgpdjhjkciaa
open Go.RowKit
attribute [local go_sem] ext_Bd ext_Bl ext_Bt toList_B add_B size_B get_Bt

/-- What is left to be read, or the first error. -/
abbrev Rs := Sum (List UInt8) Nat
def rest {α : Type} : K.Rd α → Rs
  | .inl (_, r) => .inl r
  | .inr e => .inr e
def run {α : Type} (take : List UInt8 → K.Rd α) : Rs → K.Rd α
  | .inl l => take l
  | .inr e => .inr e
def RsOk (o : Rs) (left : List UInt8) (err : Nat) : Prop :=
  match o with
  | .inl l => err = 0 ∧ left = l
  | .inr e => err = e ∧ 0 < e
/-- The reader in block p. -/
def RC (p : Nat) (left : List UInt8) (err : Nat) (w : World) : Prop := w.heap[p]? = some (.cells #[.string (B left), .int .i64 (err : Int)] 90 (0, 0))
def RM (p : Nat) (o : Rs) (w : World) : Prop := ∃ left err, RC p left err w ∧ left.length ≤ 1000000 ∧ RsOk o left err
theorem RM.lt {p : Nat} {o : Rs} {w : World} (h : RM p o w) : p < w.heap.size := by obtain ⟨_, _, hc, _⟩ := h; exact (Array.getElem?_eq_some_iff.1 hc).1
theorem RM.call {p : Nat} {o : Rs} {w w' : World} (h : RM p o w) (hb : Below w.heap.size w w') : RM p o w' := by
  obtain ⟨l, e, hc, h2⟩ := h
  exact ⟨l, e, (hb.block p (Array.getElem?_eq_some_iff.1 hc).1).trans hc, h2⟩
theorem RM.kept {p : Nat} {o : Rs} {w w' : World} {row : Option Nat} (h : RM p o w) (hg : w.grownBy w' row) (hn : some p ≠ row) : RM p o w' := by
  obtain ⟨l, e, hc, h2⟩ := h
  exact ⟨l, e, (hg.block p (Array.getElem?_eq_some_iff.1 hc).1 hn).trans hc, h2⟩
theorem RM.new {p : Nat} {o : Rs} {w : World} (h : RM p o w) (ob : Obj) : RM p o (w.alloc ob) := h.call ((Below.refl _ w).alloc (Nat.le_refl _) ob)
theorem grown_below {w w' : World} {row : Option Nat} (hb : Below w.heap.size w w') : w.grownBy w' row := ⟨hb.os, hb.tape, hb.output, hb.size, fun k hk _ => hb.block k hk⟩
theorem grown_refl (w : World) (row : Option Nat) : w.grownBy w row := ⟨rfl, rfl, rfl, Nat.le_refl _, fun _ _ _ => rfl⟩
theorem RC.cells {p : Nat} {left : List UInt8} {err : Nat} {w : World} (h : RC p left err w) : w.cell? ⟨p, 0, none⟩ = some (.string (B left)) ∧ w.cell? ⟨p, 1, none⟩ = some (.int .i64 (err : Int)) ∧ w.frozen? ⟨p, 0, none⟩ = false ∧ w.frozen? ⟨p, 1, none⟩ = false :=
  ⟨by have := block_cell h 0; simpa using this, by have := block_cell h 1; simpa using this, block_loose h 0, block_loose h 1⟩
theorem RC.set {p : Nat} {left r : List UInt8} {err c : Nat} {w : World} (h : RC p left err w) : RC p r c ((w.setCell ⟨p, 0, none⟩ (.string (B r))).setCell ⟨p, 1, none⟩ (.int .i64 (c : Int))) := set_block (set_block h 0 _) 1 _
theorem grown_two {p : Nat} {w w' : World} (h : w.grownBy w' (some p)) (u v : Value) : w.grownBy ((w'.setCell ⟨p, 0, none⟩ u).setCell ⟨p, 1, none⟩ v) (some p) := grown_set (grown_set h 0 u) 1 v
theorem err_bd {e : Nat} (h : 0 < e) : ((e : Int) == 0) = false ∧ ¬ e = 0 := ⟨beq_eq_false_iff_ne.2 (by omega), by omega⟩

set_option maxHeartbeats 1000000 in
set_option maxRecDepth 100000 in
theorem rm_int {p : Nat} {o : Rs} {w : World} (h : RM p o w) (res : K.Rd Nat) (H : Hid (run N.takeL o = res)) :
    Calls Try.prog 58 #[rdP p, .func (.func 59) #[] #[]] w fun x w' => (∃ n : Nat, x = .returned (.int .i64 (n : Int)) ∧ (∀ a r, res = Sum.inl (a, r) → n = a) ∧ (∀ e, res = Sum.inr e → n = 0)) ∧ RM p (rest res) w' ∧ w.grownBy w' (some p) := by
  obtain ⟨left, err, hc, hl, ho⟩ := h
  have HC := Lib.hid hc
  obtain ⟨c0, c1, l0, l1⟩ := hc.cells
  match o, ho with
  | .inr e, ho =>
    obtain ⟨rfl, he⟩ := ho
    have hres := H.out
    obtain rfl : res = Sum.inr err := hres.symm
    obtain ⟨h1, h2⟩ := err_bd he
    have HF : Hid (RM p (rest (Sum.inr err : K.Rd Nat)) w) := Lib.hid ⟨left, err, hc, hl, rfl, he⟩
    clear hc H hres
    go_enter Try.func58, Try.ntmps58
    go_wp2
    go_ret
    exact ⟨⟨0, rfl, (fun a r e => by cases e), fun _ _ => rfl⟩, HF.out, grown_refl _ _⟩
  | .inl l, ho =>
    obtain ⟨rfl, rfl⟩ := ho
    have hres : N.takeL left = res := H.out
    have HR := Lib.hid hres
    clear hc H hres
    go_enter Try.func58, Try.ntmps58
    go_wp2_with fail
    refine (Take_l left w (by omega)).mono ?_
    rintro x w1 ⟨rfl, n1, rfl⟩
    rw [HR.out]
    rcases res with ⟨a, r⟩ | e
    · have hrl := takeL_len HR.out
      have HF : Hid (RM p (.inl r) (((w.drewN n1).setCell ⟨p, 0, none⟩ (.string (B r))).setCell ⟨p, 1, none⟩ (.int .i64 ((0 : Nat) : Int)))) := Lib.hid ⟨r, 0, RC.set (w := w.drewN n1) HC.out, by omega, rfl, rfl⟩
      rw [show tkRes (Sum.inl (a, r)) = _ from tkRes_ok a r]
      go_wp2
      go_ret
      exact ⟨⟨a, rfl, (fun _ _ e => by cases e; rfl), (fun _ e => by cases e)⟩, HF.out, grown_two (grown_quiet ⟨n1, rfl⟩) _ _⟩
    · have hpos := K.num_errs left e HR.out
      have HF : Hid (RM p (.inr e) (((w.drewN n1).setCell ⟨p, 0, none⟩ (.string (B []))).setCell ⟨p, 1, none⟩ (.int .i64 (e : Int)))) := Lib.hid ⟨[], e, RC.set (w := w.drewN n1) HC.out, by simp, rfl, hpos⟩
      rw [show tkRes (Sum.inr e) = _ from tkRes_bad e]
      go_wp2
      go_ret
      exact ⟨⟨0, rfl, (fun _ _ e => by cases e), fun _ _ => rfl⟩, HF.out, grown_two (grown_quiet ⟨n1, rfl⟩) _ _⟩
end Go.Proofs.Ytljcgpdjhjkciaa
