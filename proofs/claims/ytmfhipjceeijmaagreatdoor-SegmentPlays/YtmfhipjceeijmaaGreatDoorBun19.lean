/-
  Own texts, joined: RangeYields
-/
import Derived.Test.YtmfhipjceeijmaaGreatDoorBun9
import Derived.RangeFuncNested
import Derived.RangeFuncBound
import Derived.RangeFuncCalls

/-
  A range over a function that tells, with each thing that it gives, a fact of the memory of that moment: the contract of such a function, and the law of its caller.
-/
namespace Go.Proofs.YtmfhipjceeijmaaGreatDoor
open Go.RowKit

/-- What it gives (val), a fact of each at its moment (Rx), what a round must keep (Kp), how many there are at most (N), what all of them are (S). -/
def Yields {α : Type} (F : Fence) (n : Nat) (P : Program) (g : Nat) (lb : Array Value) (val : α → Array Value) (Rx : α → World → Prop) (Kp : World → World → Prop) (S : List α → Prop) (N : Nat) (w : World) : Prop :=
  ∀ (l : Nat) (J : List α → World → Prop) (W : World), Below w.heap.size w W → (∀ pre A B, J pre A → Below A.heap.size A B → J pre B) →
    (∀ pre x A, J pre A → Rx x A → pre.length < N → YieldAt F (n - 1) P l (val x) A fun e B => e = .returned (.bool true) ∧ J (pre ++ [x]) B ∧ Kp A B) →
    J [] W → CallsIn F n P g (#[.func (.yield l) #[] #[]] ++ lb) W fun e B => (∃ v, e = .returned v) ∧ ∃ xs, S xs ∧ J xs B

variable {F : Fence} {n : Nat} {P : Program}
theorem range_yields {α : Type} {g : Operand} {ps : Array Tmp} {assign body : Code} {Q : Exit → Act → World → Prop} {a : Act} {w : World}
    (hro : F.round = none) (h1 : 1 ≤ n) {gf : Nat} {lb : Array Value} (hg : a.eval g = .func (.func gf) #[] lb) (hFg : F.fn gf) (eg : ∀ args w, (callFunc gf args).run P w = .ok (.enter gf args) w)
    {val : α → Array Value} {Rx : α → World → Prop} {Kp : World → World → Prop} {S : List α → Prop} {N : Nat} {w0 : World} (hseq : Yields F (n - 1) P gf lb val Rx Kp S N w0) (hb0 : Below w0.heap.size w0 w) (hps : ∀ x, (val x).size = ps.size)
    (hKp : ∀ (A B : World) (l : Nat) (o : Obj) (r : Loop), w.heap.size ≤ l → A.heap[l]? = some (.loop r) → Kp A B → Kp A (B.putObj l o))
    (I : List α → World → Prop) (hI : OwnFrom w.heap.size I) (h0 : I [] w)
    (hround : ∀ (l : Nat) (pre : List α) (x : α) (W : World), w.heap.size ≤ l → (∃ r, W.heap[l]? = some (.loop r)) → I pre W → Rx x W → pre.length < N →
      assign.wpIn (F.inRound l) (n - 1 - 1) P (Exit.then (fun a' A => KeepsFrom w.heap.size W A ∧ ∀ r, A.heap[l]? = some (.loop r) → ∀ r', body.wpIn (F.inRound l) (n - 1 - 1) P (fun e _ B => e = .normal ∧ KeepsFrom w.heap.size (A.putObj l (.loop r')) B ∧ Kp W B ∧ I (pre ++ [x]) B) a' (A.putObj l (.loop r'))) (fun _ _ _ => False))
        { tmps := (ps.zip (val x)).foldl (fun t (p, v) => t.setIfInBounds p v) a.tmps, defers := [] } W)
    (hdone : ∀ (D : Nat) (xs : List α) (W : World), w.heap.size ≤ D → S xs → I xs W → W.heap[D]? = some (.deferred (some [])) → Q .normal { a with defers := { target := .collected D, args := #[] } :: a.defers } W) :
    (Code.rangeFunc g ps assign body).wpIn F n P Q a w := by
  refine wpIn_rangeFunc fun fn hfn => ?_
  rw [hro]
  obtain ⟨W1, hW1⟩ : ∃ W1, (w.alloc (.deferred (some []))).alloc (.loop { state := .ready, pending := none, fn, tmps := a.tmps, params := ps, assign, body, defers := w.heap.size }) = W1 := ⟨_, rfl⟩
  have hd : W1.heap[w.heap.size]? = some (.deferred (some [])) := by
    rw [← hW1]
    exact (Below.heap_alloc _ _ _ (by simp)).trans (World.alloc_heap_new w _)
  have hl : W1.heap[w.heap.size + 1]? = some (.loop { state := .ready, pending := none, fn, tmps := a.tmps, params := ps, assign, body, defers := w.heap.size }) := by
    rw [← hW1]
    have := World.alloc_heap_new (w.alloc (.deferred (some []))) (.loop { state := .ready, pending := none, fn, tmps := a.tmps, params := ps, assign, body, defers := w.heap.size })
    rwa [World.size_alloc] at this
  have hi : I [] W1 := by rw [← hW1]; exact hI.alloc _ (hI.alloc _ h0)
  have hb : Below w.heap.size w W1 := by rw [← hW1]; exact ((Below.refl _ w).alloc (Nat.le_refl _) _).alloc (by simp) _
  refine ⟨w.heap.size + 1, [{ target := .collected w.heap.size, args := #[] }], W1, { target := .fn (.func gf) lb, args := #[.func (.yield (w.heap.size + 1)) #[] #[]] }, W1, gf, #[.func (.yield (w.heap.size + 1)) #[] #[]] ++ lb, W1, by rw [← hW1]; exact run_enterLoop_outer _ _ _ _ _, by simp only [resolve, hg]; simp [go_sem], ?_, by simp [invoke, go_sem, eg], fun _ => h1, ?_⟩
  · intro f' hf'
    simp [Target.leads] at hf'
    subst hf'
    exact hFg
  refine (hseq (w.heap.size + 1) (fun pre W => I pre W ∧ (W.heap[w.heap.size + 1]? = some (.loop { state := .ready, pending := none, fn, tmps := a.tmps, params := ps, assign, body, defers := w.heap.size }) ∧ W.heap[w.heap.size]? = some (.deferred (some [])))) W1 (hb0.trans (hb.mono hb0.size)) ?_ ?_ ⟨hi, hl, hd⟩).mono ?_
  · rintro pre A B ⟨h2, h3, h4⟩ hAB
    refine ⟨hI pre A B none h2 ⟨hAB.os, hAB.tape, hAB.output, hAB.size, fun k hk _ => hAB.block k hk⟩ (fun r e => by cases e), ?_, ?_⟩
    · rw [hAB.block _ (Array.getElem?_eq_some_iff.1 h3).1]; exact h3
    · rw [hAB.block _ (Array.getElem?_eq_some_iff.1 h4).1]; exact h4
  · rintro pre x A ⟨h2, h3, h4⟩ hx hlen
    have hy := run_yield (P := P) (args := val x) h3 (hps x)
    refine ⟨_, _, _, _, hy, roundIn_of_wpIn hfn (wpIn_mono (hround _ pre x A (by omega) ⟨_, h3⟩ h2 hx hlen) ?_)⟩
    rintro e a' A1 he
    cases e <;> try exact he.elim
    obtain ⟨hk1, hbody⟩ := he
    have g3 := hk1.same _ _ (by omega) h3 rfl
    have g4 := hk1.same _ _ (Nat.le_refl _) h4 rfl
    have hlt := (Array.getElem?_eq_some_iff.1 g3).1
    refine ⟨_, run_beginRound g3 rfl, wpIn_mono (hbody _ g3 _) ?_⟩
    rintro e a3 B ⟨rfl, hk, hkp, hi3⟩
    have q3 := hk.same _ _ (by omega) (World.putObj_heap_same hlt) rfl
    have q4 := hk.same _ _ (Nat.le_refl _) ((World.putObj_heap_other (by omega)).trans g4) rfl
    have hr := run_endRound (P := P) none q3
    refine ⟨_, _, hr, rfl, ⟨hI.putObj _ hi3 (by omega) q3 rfl, World.putObj_heap_same (Array.getElem?_eq_some_iff.1 q3).1, (World.putObj_heap_other (by omega)).trans q4⟩, hKp _ _ _ _ _ (by omega) h3 hkp⟩
  · rintro e W2 ⟨⟨v, rfl⟩, xs, hS, h2, h3, h4⟩
    exact ⟨none, _, run_endLoop h3 (by simp), hdone _ xs _ (Nat.le_refl _) hS (hI.putObj _ h2 (by omega) h3 rfl) ((World.putObj_heap_other (by omega)).trans h4)⟩
end Go.Proofs.YtmfhipjceeijmaaGreatDoor
