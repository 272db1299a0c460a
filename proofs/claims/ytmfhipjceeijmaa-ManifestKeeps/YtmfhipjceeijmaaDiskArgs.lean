/-
  The arguments of chapter 8's laws: rows of acts, rows of numbers.
-/
import Derived.Test.YtmfhipjceeijmaaDiskSpec
import Derived.Test.YtmfhipjceeijmaaEventArgs
namespace Go.Proofs.Ytmfhipjceeijmaa.D
open Go.RowKit Go.ChangeShapes Go.WideShapes Go.Deep

def i64B (z : Int) : Prop := -9223372036854775808 ≤ z ∧ z ≤ 9223372036854775807
theorem keeps {w w' : World} (hb : Below w.heap.size w w') (p : Addr) (u : Value) (h : w.cell? p = some u) : w'.cell? p = some u := by
  rw [hb.cell (World.block_lt_of_cell? w p h)]; exact h
def ReadsI (w : World) (v : Value) (zs : List Int) : Prop :=
  ∃ a cap, v = .slice a zs.length cap ∧ ∀ i (h : i < zs.length), i64B zs[i] ∧ ∃ b off, a = some ⟨b, off, none⟩ ∧ w.cell? ⟨b, off + i, none⟩ = some (.int .i64 zs[i])
theorem readsI_below {w w' : World} {v : Value} {zs : List Int} (h : ReadsI w v zs) (hb : Below w.heap.size w w') : ReadsI w' v zs := by
  obtain ⟨a, cap, h1, hx⟩ := h
  refine ⟨a, cap, h1, fun i hi => ?_⟩
  obtain ⟨h2, b, off, h3, h4⟩ := hx i hi
  exact ⟨h2, b, off, h3, keeps hb _ _ h4⟩
/-- An act, and the slice in which its numbers lie. -/
structure Ac where
  op : Int
  name : Tx
  more : Tx
  keep : List Int
  v : Value
def ReadsA (w : World) (v : Value) (acs : List Ac) : Prop :=
  ∃ a cap, v = .slice a acs.length cap ∧ ∀ i (h : i < acs.length), (ReadsI w acs[i].v acs[i].keep ∧ i64B acs[i].op ∧ acs[i].name.length ≤ 9223372036854775807 ∧ acs[i].more.length ≤ 9223372036854775807) ∧ ∃ b off, a = some ⟨b, off, none⟩ ∧ w.cell? ⟨b, off + i * 4, none⟩ = some (.int .i64 acs[i].op) ∧ w.cell? ⟨b, off + i * 4 + 1, none⟩ = some (.string (B acs[i].name)) ∧ w.cell? ⟨b, off + i * 4 + 2, none⟩ = some (.string (B acs[i].more)) ∧ w.cell? ⟨b, off + i * 4 + 3, none⟩ = some acs[i].v
theorem readsA_below {w w' : World} {v : Value} {acs : List Ac} (h : ReadsA w v acs) (hb : Below w.heap.size w w') : ReadsA w' v acs := by
  obtain ⟨a, cap, h1, hx⟩ := h
  refine ⟨a, cap, h1, fun i hi => ?_⟩
  obtain ⟨⟨h2, h3⟩, b, off, h4, c0, c1, c2, c3⟩ := hx i hi
  exact ⟨⟨readsI_below h2 hb, h3⟩, b, off, h4, keeps hb _ _ c0, keeps hb _ _ c1, keeps hb _ _ c2, keeps hb _ _ c3⟩

section
variable {H : Type} {enc : TypeId × Value → H} {P : Program} {w : World} {base : Nat} {spare : Nat → Bool} {held : Bool}
theorem open_ints {ts t : TypeId} {fuel : Nat} {v : Value} {x : DataW H × List MemPlace} (hts : P.underlying ts = some (.slice t)) (ht : P.underlying t = some (.int .i64)) (hC : P.cellsOf t = 1)
    (h : DataW.trod enc P w base spare held fuel ts [v] = some x) : ∃ zs, ReadsI w v zs := by
  rcases open_slice hts h with ⟨hcs, _⟩ | ⟨a, len, cap, m, n, D, Pl, hcs, hb, hle, hm, hmm, _, hi⟩
  · cases hcs
    exact ⟨[], none, 0, rfl, fun i hi => by simp at hi⟩
  · cases hcs
    have hlm : len ≤ m := by rw [hmm]; split <;> omega
    have key : ∀ i, i < len → ∃ q : Int, i64B q ∧ w.cell? (a.add i) = some (.int .i64 q) := by
      intro i hil
      obtain ⟨cs, hc, hr⟩ := hi i (by omega)
      rw [hC] at hc
      obtain ⟨_, hl1, hat⟩ := World.cells?_some hc
      have c0 := hat 0 (by omega)
      rw [Go.Deep.add_add] at c0
      match cs, hl1 with
      | [x], _ =>
        obtain ⟨s0, q0, _, w0⟩ := DataW.trod_int ht hr
        cases q0
        exact ⟨s0, i64_bd w0, by simpa using c0⟩
    obtain ⟨f, hf⟩ : ∃ f : Nat → Int, ∀ i, i < len → i64B (f i) ∧ w.cell? (a.add i) = some (.int .i64 (f i)) := by
      refine ⟨fun i => if h : i < len then Classical.choose (key i h) else 0, fun i hil => ?_⟩
      have hs := Classical.choose_spec (key i hil)
      simp only [dif_pos hil]
      exact hs
    obtain ⟨b, off, spot⟩ := a
    refine ⟨(List.range len).map f, some ⟨b, off, spot⟩, cap, by simp, fun i hi => ?_⟩
    have hil : i < len := by simpa using hi
    have hspot : spot = none := by simpa [Addr.add] using World.cell?_spot (hf 0 (by omega)).2
    subst hspot
    obtain ⟨hz, c0⟩ := hf i hil
    rw [Go.WideShapes.add_plain] at c0
    have e1 : ((List.range len).map f)[i] = f i := by simp
    rw [e1]
    exact ⟨hz, b, off, rfl, c0⟩
theorem open_act {t tk ti : TypeId} {f0 f1 f2 f3 : Field} {fuel : Nat} {cs : List Value} {x : DataW H × List MemPlace} (ht : P.underlying t = some (.struct #[f0, f1, f2, f3])) (hone : oneCellFields P #[f0, f1, f2, f3] = true) (hC : P.cellsOf t = 4)
    (h0 : P.underlying f0.type = some (.int .i64)) (h1 : P.underlying f1.type = some .string) (h2 : P.underlying f2.type = some .string) (h3 : f3.type = tk) (hk : P.underlying tk = some (.slice ti)) (hi : P.underlying ti = some (.int .i64)) (hCi : P.cellsOf ti = 1)
    (h : DataW.trod enc P w base spare held fuel t cs = some x) :
    ∃ a : Ac, cs = [.int .i64 a.op, .string (B a.name), .string (B a.more), a.v] ∧ ReadsI w a.v a.keep ∧ i64B a.op ∧ a.name.length ≤ 9223372036854775807 ∧ a.more.length ≤ 9223372036854775807 := by
  obtain ⟨hln, n, hf⟩ := fields_one ht hone hC h
  obtain ⟨v0, y0, c0, r0⟩ := hf 0 f0 rfl
  obtain ⟨v1, y1, c1, r1⟩ := hf 1 f1 rfl
  obtain ⟨v2, y2, c2, r2⟩ := hf 2 f2 rfl
  obtain ⟨v3, y3, c3, r3⟩ := hf 3 f3 rfl
  obtain ⟨s0, e0, _, w0⟩ := DataW.trod_int h0 r0
  obtain ⟨s1, e1, _, b1⟩ := DataW.trod_string h1 r1
  obtain ⟨s2, e2, _, b2⟩ := DataW.trod_string h2 r2
  rw [h3] at r3
  obtain ⟨zs, hz⟩ := open_ints hk hi hCi r3
  cases e0
  cases e1
  cases e2
  refine ⟨⟨s0, L s1, L s2, zs, v3⟩, ?_, hz, i64_bd w0, by rw [L_len]; exact b1, by rw [L_len]; exact b2⟩
  rw [B_L, B_L]
  match cs, hln with
  | [a, b, c, d], _ =>
    cases c0
    cases c1
    cases c2
    cases c3
    rfl
theorem arg_acts {r : Reach} {b0 : Nat} {ts t tk ti : TypeId} {f0 f1 f2 f3 : Field} {v : Value} {d : DataW H} {p : List MemPlace} (hts : P.underlying ts = some (.slice t)) (ht : P.underlying t = some (.struct #[f0, f1, f2, f3])) (hone : oneCellFields P #[f0, f1, f2, f3] = true) (hC : P.cellsOf t = 4)
    (h0 : P.underlying f0.type = some (.int .i64)) (h1 : P.underlying f1.type = some .string) (h2 : P.underlying f2.type = some .string) (h3 : f3.type = tk) (hk : P.underlying tk = some (.slice ti)) (hi0 : P.underlying ti = some (.int .i64)) (hCi : P.cellsOf ti = 1)
    (hv : Value.okWide P w r b0 ts v) (h : DataW.Trod enc P w base spare held ts v d p) : ∃ acs, ReadsA w v acs := by
  obtain ⟨a0, len, cap, rfl⟩ := okWide_slice hts hv
  obtain ⟨fuel, hf⟩ := h
  have hf2 : DataW.trod enc P w base spare held fuel ts [.slice a0 len cap] = some (d, p) := hf
  rcases open_slice hts hf2 with ⟨hcs, _⟩ | ⟨a, len1, cap1, m, n, D, Pl, hcs, hb, hle, hm, hmm, _, hi⟩
  · cases hcs
    exact ⟨[], none, 0, rfl, fun i hi => by simp at hi⟩
  · cases hcs
    have hlm : len ≤ m := by rw [hmm]; split <;> omega
    have key : ∀ i, i < len → ∃ q : Ac, (ReadsI w q.v q.keep ∧ i64B q.op ∧ q.name.length ≤ 9223372036854775807 ∧ q.more.length ≤ 9223372036854775807) ∧ w.cell? (a.add (i * 4)) = some (.int .i64 q.op) ∧ w.cell? (a.add (i * 4 + 1)) = some (.string (B q.name)) ∧ w.cell? (a.add (i * 4 + 2)) = some (.string (B q.more)) ∧ w.cell? (a.add (i * 4 + 3)) = some q.v := by
      intro i hil
      obtain ⟨cs, hc, hr⟩ := hi i (by omega)
      rw [hC] at hc
      obtain ⟨q, rfl, hq⟩ := open_act ht hone hC h0 h1 h2 h3 hk hi0 hCi hr
      obtain ⟨_, _, hat⟩ := World.cells?_some hc
      have c0 := hat 0 (by omega)
      have c1 := hat 1 (by omega)
      have c2 := hat 2 (by omega)
      have c3 := hat 3 (by omega)
      rw [Go.Deep.add_add] at c0 c1 c2 c3
      exact ⟨q, hq, c0, c1, c2, c3⟩
    obtain ⟨f, hf⟩ : ∃ f : Nat → Ac, ∀ i, i < len → (ReadsI w (f i).v (f i).keep ∧ i64B (f i).op ∧ (f i).name.length ≤ 9223372036854775807 ∧ (f i).more.length ≤ 9223372036854775807) ∧ w.cell? (a.add (i * 4)) = some (.int .i64 (f i).op) ∧ w.cell? (a.add (i * 4 + 1)) = some (.string (B (f i).name)) ∧ w.cell? (a.add (i * 4 + 2)) = some (.string (B (f i).more)) ∧ w.cell? (a.add (i * 4 + 3)) = some (f i).v := by
      refine ⟨fun i => if h : i < len then Classical.choose (key i h) else ⟨0, [], [], [], .slice none 0 0⟩, fun i hil => ?_⟩
      have hs := Classical.choose_spec (key i hil)
      simp only [dif_pos hil]
      exact hs
    obtain ⟨b, off, spot⟩ := a
    refine ⟨(List.range len).map f, some ⟨b, off, spot⟩, cap, by simp, fun i hi => ?_⟩
    have hil : i < len := by simpa using hi
    have hspot : spot = none := by simpa [Addr.add] using World.cell?_spot (hf 0 (by omega)).2.1
    subst hspot
    obtain ⟨hq, c0, c1, c2, c3⟩ := hf i hil
    rw [Go.WideShapes.add_plain] at c0 c1 c2 c3
    have e1 : ((List.range len).map f)[i] = f i := by simp
    rw [e1]
    exact ⟨hq, b, off, rfl, c0, c1, c2, c3⟩
end
end Go.Proofs.Ytmfhipjceeijmaa.D
