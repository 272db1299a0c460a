/-
  Walks of package record: the closures that tell epochs of places that do not fall.
-/
import Derived.Test.YtfhopgficckjkaaRecordForce
namespace Go.Proofs.Ytfhopgficckjkaa
open Go.RowKit
attribute [local go_sem] ext_Bd ext_Bl ext_Bt toList_B add_B size_B get_Bt

/-- All blocks but some are as they were. -/
structure But (S : Nat → Prop) (w w' : World) : Prop where
  os : w'.os = w.os
  tape : w'.tape = w.tape
  output : w'.output = w.output
  size : w.heap.size ≤ w'.heap.size
  block : ∀ k, k < w.heap.size → ¬ S k → w'.heap[k]? = w.heap[k]?
theorem But.refl (S : Nat → Prop) (w : World) : But S w w := ⟨rfl, rfl, rfl, Nat.le_refl _, fun _ _ _ => rfl⟩
theorem But.trans {S : Nat → Prop} {a b c : World} (h : But S a b) (k : But S b c) : But S a c :=
  ⟨k.os.trans h.os, k.tape.trans h.tape, k.output.trans h.output, Nat.le_trans h.size k.size, fun i hi hs => (k.block i (Nat.lt_of_lt_of_le hi h.size) hs).trans (h.block i hi hs)⟩
theorem But.mono {S T : Nat → Prop} {a b : World} (h : But S a b) (hst : ∀ k, S k → T k) : But T a b := ⟨h.os, h.tape, h.output, h.size, fun k hk hs => h.block k hk fun h2 => hs (hst k h2)⟩
theorem But.of_below {S : Nat → Prop} {w w' : World} (h : Below w.heap.size w w') : But S w w' := ⟨h.os, h.tape, h.output, h.size, fun k hk _ => h.block k hk⟩
theorem But.drewN {S : Nat → Prop} {a w : World} (h : But S a w) (n : Nat) : But S a (w.drewN n) := ⟨h.os, h.tape, h.output, h.size, h.block⟩
theorem But.setCell {S : Nat → Prop} {a w : World} (h : But S a w) {p : Addr} (hp : S p.block) (u : Value) : But S a (w.setCell p u) := by
  refine ⟨h.os, h.tape, h.output, by simpa using h.size, fun k hk hs => ?_⟩
  rw [Below.heap_setCell w p u k (fun e => hs (by rw [e]; exact hp))]
  exact h.block k hk hs
theorem But.below {S : Nat → Prop} {w w' : World} {m : Nat} (h : But S w w') (hm : m ≤ w.heap.size) (hs : ∀ k, S k → m ≤ k) : Below m w w' :=
  ⟨h.os, h.tape, h.output, h.size, fun k hk => h.block k (by omega) fun h2 => by have := hs k h2; omega⟩
theorem But.at {S : Nat → Prop} {w w' : World} {k : Nat} {o : Obj} (h : But S w w') (hk : w.heap[k]? = some o) (hs : ¬ S k) : w'.heap[k]? = some o := by
  rw [h.block k (lt_of_block hk) hs]; exact hk
theorem cell_same {w w' : World} {p : Addr} {u : Value} (h : w.cell? p = some u) (hb : w'.heap[p.block]? = w.heap[p.block]?) : w'.cell? p = some u := by
  rw [World.cell?_of_block (w := w) hb]; exact h

/-- What a closure of epochsBy has seen: its two variables; what is to come lies in a block between lo and these. -/
structure EpAt (w : World) (lo g1 g2 : Nat) (K : List R.Mk) (p : Int) : Prop where
  ord : lo ≤ g1 ∧ g1 < g2
  st : ∃ (j : Nat) (q : Int) (a : Option Addr) (cap : Nat), R.Seen K j q p ∧ w.heap[g2]? = some (.cells #[.int .i64 q] 3 (0, 0)) ∧ w.heap[g1]? = some (.cells #[.slice a (K.length - j) cap] 35 (0, 0)) ∧ K.length - j ≤ cap ∧
    ∀ i (h : j + i < K.length), ∃ b off, a = some ⟨b, off, none⟩ ∧ lo ≤ b ∧ b < g1 ∧ w.cell? ⟨b, off + i * 2, none⟩ = some (.int .i64 K[j + i].1) ∧ w.cell? ⟨b, off + i * 2 + 1, none⟩ = some (.int .i64 K[j + i].2)
theorem EpAt.keep {w w' : World} {lo g1 g2 : Nat} {K : List R.Mk} {p : Int} (h : EpAt w lo g1 g2 K p) (hk : ∀ k, lo ≤ k → k ≤ g2 → w'.heap[k]? = w.heap[k]?) : EpAt w' lo g1 g2 K p := by
  obtain ⟨h1, j, q, a, cap, h2, h3, h4, h5, h6⟩ := h
  refine ⟨h1, j, q, a, cap, h2, (hk g2 (by omega) (Nat.le_refl _)).trans h3, (hk g1 h1.1 (by omega)).trans h4, h5, fun i hi => ?_⟩
  obtain ⟨b, off, e, hb1, hb2, c0, c1⟩ := h6 i hi
  exact ⟨b, off, e, hb1, hb2, cell_same c0 (hk b hb1 (by omega)), cell_same c1 (hk b hb1 (by omega))⟩
theorem EpAt.later {w : World} {lo g1 g2 : Nat} {K : List R.Mk} {p p' : Int} (h : EpAt w lo g1 g2 K p) (hp : p ≤ p') : EpAt w lo g1 g2 K p' := by
  obtain ⟨h1, j, q, a, cap, h2, h3⟩ := h
  exact ⟨h1, j, q, a, cap, R.seen_mono h2 hp, h3⟩
theorem ep_step {w : World} {lo g1 g2 : Nat} {K : List R.Mk} {p q : Int} {j b off n cap : Nat} {a : Option Addr} (a' : Option Addr) (ha : 0 < n → a' = some ⟨b, off + 2, none⟩) (ho : lo ≤ g1 ∧ g1 < g2) (hs : R.Seen K j q p) (hj : j < K.length) (hp : K[j].2 ≤ p) (hn : K.length - j = n + 1)
    (h2 : w.heap[g2]? = some (.cells #[.int .i64 q] 3 (0, 0))) (h1 : w.heap[g1]? = some (.cells #[.slice a (n + 1) cap] 35 (0, 0))) (hc : n + 1 ≤ cap)
    (hx : ∀ i (h : j + i < K.length), ∃ b' off', some (⟨b, off, none⟩ : Addr) = some ⟨b', off', none⟩ ∧ lo ≤ b' ∧ b' < g1 ∧ w.cell? ⟨b', off' + i * 2, none⟩ = some (.int .i64 K[j + i].1) ∧ w.cell? ⟨b', off' + i * 2 + 1, none⟩ = some (.int .i64 K[j + i].2)) :
    EpAt ((w.setCell ⟨g2, 0, none⟩ (.int .i64 K[j].1)).setCell ⟨g1, 0, none⟩ (.slice a' n (cap - 1))) lo g1 g2 K p := by
  have hb2 : ∀ k, k ≠ g1 → k ≠ g2 → ((w.setCell ⟨g2, 0, none⟩ (.int .i64 K[j].1)).setCell ⟨g1, 0, none⟩ (.slice a' n (cap - 1))).heap[k]? = w.heap[k]? := fun k e1 e2 => by
    rw [Below.heap_setCell _ _ _ _ (by exact e1), Below.heap_setCell _ _ _ _ (by exact e2)]
  refine ⟨ho, j + 1, K[j].1, a', cap - 1, R.seen_step hs hj hp, ?_, ?_, by omega, fun i hi => ?_⟩
  · rw [Below.heap_setCell _ _ _ _ (by show g2 ≠ g1; omega)]
    exact one_setCell h2
  · rw [show K.length - (j + 1) = n by omega]
    refine one_setCell (v := .slice a (n + 1) cap) ?_
    rw [Below.heap_setCell _ _ _ _ (by show g1 ≠ g2; omega)]
    exact h1
  · obtain ⟨b', off', e, hl, hu, c0, c1⟩ := hx (i + 1) (by omega)
    cases e
    have e1 : K[j + (i + 1)] = K[j + 1 + i] := by congr 1; omega
    rw [e1] at c0 c1
    refine ⟨b, off + 2, ha (by omega), hl, hu, cell_same ?_ (hb2 b (by omega) (by omega)), cell_same ?_ (hb2 b (by omega) (by omega))⟩
    · rw [show off + 2 + i * 2 = off + (i + 1) * 2 by omega]; exact c0
    · rw [show off + 2 + i * 2 + 1 = off + (i + 1) * 2 + 1 by omega]; exact c1
def comingLen (w : World) (g : Nat) : Nat := match w.cell? ⟨g, 0, none⟩ with
  | some (.slice _ n _) => n
  | _ => 0
theorem comingLen_at {w : World} {g n cap : Nat} {a : Option Addr} {t : TypeId} (h : w.heap[g]? = some (.cells #[.slice a n cap] t (0, 0))) : comingLen w g = n := by
  unfold comingLen; rw [cell_of_one h]

set_option maxHeartbeats 2000000 in
set_option maxRecDepth 100000 in
theorem epoch_ask (w : World) (lo g1 g2 : Nat) (K : List R.Mk) (p0 p r : Int) (hr : R.Rise K) (h : EpAt w lo g1 g2 K p0) (hp : p0 ≤ p) (H : Hid (R.epochAt K p = r)) :
    Calls Try.prog 79 #[.int .i64 p, .pointer (some ⟨g1, 0, none⟩), .pointer (some ⟨g2, 0, none⟩)] w fun x w' => x = .returned (.int .i64 r) ∧ EpAt w' lo g1 g2 K p ∧ But (fun k => k = g1 ∨ k = g2) w w' := by
  have HE : Hid (EpAt w lo g1 g2 K p) := Lib.hid (h.later hp)
  have HR := Lib.hid hr
  clear h hr
  go_enter Try.func79, Try.ntmps79
  go_wp2
  go_loopw [] (fun wr => EpAt wr lo g1 g2 K p ∧ But (fun k => k = g1 ∨ k = g2) w wr) (fun wr => comingLen wr g1)
  case atStart => exact ⟨HE.out, But.refl _ _⟩
  case round =>
    obtain ⟨hep, hbut⟩ := hrel
    have HEP := Lib.hid hep
    have HBUT := Lib.hid hbut
    obtain ⟨ho, j, q, a, cap, hs, h2, h1, hcap, hx⟩ := hep
    have HS := Lib.hid hs
    have HX := Lib.hid hx
    have d2 := cell_of_one h2
    have f2 := free_of_one h2
    clear hs hx hbut HE
    by_cases hj : j < K.length
    · obtain ⟨n, hn⟩ : ∃ n, K.length - j = n + 1 := ⟨K.length - j - 1, by omega⟩
      rw [hn] at h1 hcap
      have d1 := cell_of_one h1
      have f1 := free_of_one h1
      obtain ⟨b, off, rfl, hb1, hb2, x0, x1⟩ := HX.out 0 (by omega)
      simp only [Nat.add_zero, Nat.zero_mul] at x0 x1
      have HM := Lib.hid (comingLen_at h1)
      have HO := Lib.hid ho
      have hg12 : g1 ≠ g2 := by omega
      have hg21 : g2 ≠ g1 := by omega
      have hn0 : (0 : Int) < ((n + 1 : Nat) : Int) := by omega
      by_cases hpp : K[j].2 ≤ p
      · have HN := Lib.hid (ep_step (if cap = 1 then some ⟨b, off, none⟩ else some ⟨b, off + 2, none⟩) (fun h => if_neg (by omega)) ho HS.out hj hpp hn h2 h1 hcap HX.out)
        have HBN := Lib.hid ((HBUT.out.setCell (p := ⟨g2, 0, none⟩) (.inr rfl) (.int .i64 K[j].1)).setCell (p := ⟨g1, 0, none⟩) (.inl rfl) (.slice (if cap = 1 then some ⟨b, off, none⟩ else some ⟨b, off + 2, none⟩) n (cap - 1)))
        have HM2 : Hid (comingLen ((wr.setCell ⟨g2, 0, none⟩ (.int .i64 K[j].1)).setCell ⟨g1, 0, none⟩ (.slice (if cap = 1 then some ⟨b, off, none⟩ else some ⟨b, off + 2, none⟩) n (cap - 1))) g1 = n) := Lib.hid (comingLen_at (one_setCell (by rw [Below.heap_setCell _ _ _ _ (by show g1 ≠ g2; omega)]; exact h1)))
        have d1b : ∀ u, (wr.setCell ⟨g2, 0, none⟩ u).cell? ⟨g1, 0, none⟩ = some (.slice (some ⟨b, off, none⟩) (n + 1) cap) := fun u => cell_same d1 (Below.heap_setCell _ _ _ _ hg12)
        have f1b : ∀ u, (wr.setCell ⟨g2, 0, none⟩ u).frozen? ⟨g1, 0, none⟩ = false := fun u => free_of_one (v := .slice (some ⟨b, off, none⟩) (n + 1) cap) (t := 35) (by rw [Below.heap_setCell _ _ _ _ hg12]; exact h1)
        clear hn h1 h2 HX ho
        generalize K[j] = m at *
        obtain ⟨m0, m1⟩ := m
        dsimp only at *
        go_wp2
        go_roundw
        case rel => exact ⟨HN.out, HBN.out⟩
        case measure => rw [HM.out, HM2.out]; omega
      · have HE := Lib.hid (show q = r by rw [← H.out]; exact R.seen_end HS.out HR.out fun _ => by omega)
        clear hn h1 h2 HX ho
        generalize K[j] = m at *
        go_wp2
        go_ret
        rw [HE.out]
        exact ⟨rfl, HEP.out, HBUT.out⟩
    · have HE := Lib.hid (show q = r by rw [← H.out]; exact R.seen_end HS.out HR.out fun h => absurd h hj)
      rw [show K.length - j = 0 by omega] at h1
      have d1 := cell_of_one h1
      go_wp2
      go_ret
      rw [HE.out]
      exact ⟨rfl, HEP.out, HBUT.out⟩
end Go.Proofs.Ytfhopgficckjkaa
