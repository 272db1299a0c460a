/-
  The arguments of chapter 10's laws: rows of rows of numbers, rows of acts.
-/
import Derived.Test.YtmfhipjceeijmaaDiskArgs
namespace Go.Proofs.Ytmfhipjceeijmaa.A
open Go.RowKit Go.ChangeShapes Go.WideShapes Go.Deep
open D (Tx ReadsI i64B keeps readsI_below)

/-- A row of numbers, and the slice in which it lies. -/
abbrev Ls := List Int × Value
def ReadsII (w : World) (v : Value) (xs : List Ls) : Prop :=
  ∃ a cap, v = .slice a xs.length cap ∧ ∀ i (h : i < xs.length), ReadsI w xs[i].2 xs[i].1 ∧ ∃ b off, a = some ⟨b, off, none⟩ ∧ w.cell? ⟨b, off + i, none⟩ = some xs[i].2
theorem readsII_below {w w' : World} {v : Value} {xs : List Ls} (h : ReadsII w v xs) (hb : Below w.heap.size w w') : ReadsII w' v xs := by
  obtain ⟨a, cap, h1, hx⟩ := h
  refine ⟨a, cap, h1, fun i hi => ?_⟩
  obtain ⟨h2, b, off, h3, h4⟩ := hx i hi
  exact ⟨readsI_below h2 hb, b, off, h3, keeps hb _ _ h4⟩
/-- An act, and the slices in which its numbers lie. -/
structure Ac where
  op : Int
  n : Int
  segs : List Int
  vs : Value
  text : Tx
  keep : List Int
  vk : Value
def Ac.fine (w : World) (a : Ac) : Prop := ReadsI w a.vs a.segs ∧ ReadsI w a.vk a.keep ∧ i64B a.op ∧ i64B a.n ∧ a.text.length ≤ 9223372036854775807
def ReadsA (w : World) (v : Value) (acs : List Ac) : Prop :=
  ∃ a cap, v = .slice a acs.length cap ∧ ∀ i (h : i < acs.length), acs[i].fine w ∧ ∃ b off, a = some ⟨b, off, none⟩ ∧ w.cell? ⟨b, off + i * 5, none⟩ = some (.int .i64 acs[i].op) ∧ w.cell? ⟨b, off + i * 5 + 1, none⟩ = some (.int .i64 acs[i].n) ∧ w.cell? ⟨b, off + i * 5 + 2, none⟩ = some acs[i].vs ∧ w.cell? ⟨b, off + i * 5 + 3, none⟩ = some (.string (B acs[i].text)) ∧ w.cell? ⟨b, off + i * 5 + 4, none⟩ = some acs[i].vk
theorem fine_below {w w' : World} {a : Ac} (h : a.fine w) (hb : Below w.heap.size w w') : a.fine w' := ⟨readsI_below h.1 hb, readsI_below h.2.1 hb, h.2.2⟩
theorem readsA_below {w w' : World} {v : Value} {acs : List Ac} (h : ReadsA w v acs) (hb : Below w.heap.size w w') : ReadsA w' v acs := by
  obtain ⟨a, cap, h1, hx⟩ := h
  refine ⟨a, cap, h1, fun i hi => ?_⟩
  obtain ⟨h2, b, off, h4, c0, c1, c2, c3, c4⟩ := hx i hi
  exact ⟨fine_below h2 hb, b, off, h4, keeps hb _ _ c0, keeps hb _ _ c1, keeps hb _ _ c2, keeps hb _ _ c3, keeps hb _ _ c4⟩

section
variable {H : Type} {enc : TypeId × Value → H} {P : Program} {w : World} {base : Nat} {spare : Nat → Bool} {held : Bool}
theorem arg_intss {r : Reach} {b0 : Nat} {ts t ti : TypeId} {v : Value} {d : DataW H} {p : List MemPlace} (hts : P.underlying ts = some (.slice t)) (ht : P.underlying t = some (.slice ti)) (hti : P.underlying ti = some (.int .i64)) (hC : P.cellsOf t = 1) (hCi : P.cellsOf ti = 1)
    (hv : Value.okWide P w r b0 ts v) (h : DataW.Trod enc P w base spare held ts v d p) : ∃ xs, ReadsII w v xs := by
  obtain ⟨a0, len, cap, rfl⟩ := okWide_slice hts hv
  obtain ⟨fuel, hf⟩ := h
  have hf2 : DataW.trod enc P w base spare held fuel ts [.slice a0 len cap] = some (d, p) := hf
  rcases open_slice hts hf2 with ⟨hcs, _⟩ | ⟨a, len1, cap1, m, n, DD, Pl, hcs, hb, hle, hm, hmm, _, hi⟩
  · cases hcs
    exact ⟨[], none, 0, rfl, fun i hi => by simp at hi⟩
  · cases hcs
    have hlm : len ≤ m := by rw [hmm]; split <;> omega
    have key : ∀ i, i < len → ∃ q : Ls, ReadsI w q.2 q.1 ∧ w.cell? (a.add i) = some q.2 := by
      intro i hil
      obtain ⟨cs, hc, hr⟩ := hi i (by omega)
      rw [hC] at hc
      obtain ⟨_, hl1, hat⟩ := World.cells?_some hc
      have c0 := hat 0 (by omega)
      rw [Go.Deep.add_add] at c0
      match cs, hl1 with
      | [x], _ =>
        obtain ⟨zs, hz⟩ := D.open_ints ht hti hCi hr
        exact ⟨(zs, x), hz, by simpa using c0⟩
    obtain ⟨f, hf⟩ : ∃ f : Nat → Ls, ∀ i, i < len → ReadsI w (f i).2 (f i).1 ∧ w.cell? (a.add i) = some (f i).2 := by
      refine ⟨fun i => if h : i < len then Classical.choose (key i h) else ([], .slice none 0 0), fun i hil => ?_⟩
      have hs := Classical.choose_spec (key i hil)
      simp only [dif_pos hil]
      exact hs
    obtain ⟨b, off, spot⟩ := a
    refine ⟨(List.range len).map f, some ⟨b, off, spot⟩, cap, by simp, fun i hi => ?_⟩
    have hil : i < len := by simpa using hi
    have hspot : spot = none := by simpa [Addr.add] using World.cell?_spot (hf 0 (by omega)).2
    subst hspot
    obtain ⟨hz, c0⟩ := hf i hil
    rw [Go.WideShapes.add_plain] at c0
    have e1 : ((List.range len).map f)[i] = f i := by simp
    rw [e1]
    exact ⟨hz, b, off, rfl, c0⟩
theorem open_act {t tk ti : TypeId} {f0 f1 f2 f3 f4 : Field} {fuel : Nat} {cs : List Value} {x : DataW H × List MemPlace} (ht : P.underlying t = some (.struct #[f0, f1, f2, f3, f4])) (hone : oneCellFields P #[f0, f1, f2, f3, f4] = true) (hC : P.cellsOf t = 5)
    (h0 : P.underlying f0.type = some (.int .i64)) (h1 : P.underlying f1.type = some (.int .i64)) (h2 : f2.type = tk) (h3 : P.underlying f3.type = some .string) (h4 : f4.type = tk) (hk : P.underlying tk = some (.slice ti)) (hi : P.underlying ti = some (.int .i64)) (hCi : P.cellsOf ti = 1)
    (h : DataW.trod enc P w base spare held fuel t cs = some x) :
    ∃ a : Ac, cs = [.int .i64 a.op, .int .i64 a.n, a.vs, .string (B a.text), a.vk] ∧ a.fine w := by
  obtain ⟨hln, n, hf⟩ := fields_one ht hone hC h
  obtain ⟨v0, y0, c0, r0⟩ := hf 0 f0 rfl
  obtain ⟨v1, y1, c1, r1⟩ := hf 1 f1 rfl
  obtain ⟨v2, y2, c2, r2⟩ := hf 2 f2 rfl
  obtain ⟨v3, y3, c3, r3⟩ := hf 3 f3 rfl
  obtain ⟨v4, y4, c4, r4⟩ := hf 4 f4 rfl
  obtain ⟨s0, e0, _, w0⟩ := DataW.trod_int h0 r0
  obtain ⟨s1, e1, _, w1⟩ := DataW.trod_int h1 r1
  obtain ⟨s3, e3, _, b3⟩ := DataW.trod_string h3 r3
  rw [h2] at r2
  rw [h4] at r4
  obtain ⟨zs, hz⟩ := D.open_ints hk hi hCi r2
  obtain ⟨ks, hk2⟩ := D.open_ints hk hi hCi r4
  cases e0
  cases e1
  cases e3
  refine ⟨⟨s0, s1, zs, v2, L s3, ks, v4⟩, ?_, hz, hk2, i64_bd w0, i64_bd w1, by rw [L_len]; exact b3⟩
  rw [B_L]
  match cs, hln with
  | [a, b, c, d, e], _ =>
    cases c0
    cases c1
    cases c2
    cases c3
    cases c4
    rfl
theorem arg_acts {r : Reach} {b0 : Nat} {ts t tk ti : TypeId} {f0 f1 f2 f3 f4 : Field} {v : Value} {d : DataW H} {p : List MemPlace} (hts : P.underlying ts = some (.slice t)) (ht : P.underlying t = some (.struct #[f0, f1, f2, f3, f4])) (hone : oneCellFields P #[f0, f1, f2, f3, f4] = true) (hC : P.cellsOf t = 5)
    (h0 : P.underlying f0.type = some (.int .i64)) (h1 : P.underlying f1.type = some (.int .i64)) (h2 : f2.type = tk) (h3 : P.underlying f3.type = some .string) (h4 : f4.type = tk) (hk : P.underlying tk = some (.slice ti)) (hi0 : P.underlying ti = some (.int .i64)) (hCi : P.cellsOf ti = 1)
    (hv : Value.okWide P w r b0 ts v) (h : DataW.Trod enc P w base spare held ts v d p) : ∃ acs, ReadsA w v acs := by
  obtain ⟨a0, len, cap, rfl⟩ := okWide_slice hts hv
  obtain ⟨fuel, hf⟩ := h
  have hf2 : DataW.trod enc P w base spare held fuel ts [.slice a0 len cap] = some (d, p) := hf
  rcases open_slice hts hf2 with ⟨hcs, _⟩ | ⟨a, len1, cap1, m, n, DD, Pl, hcs, hb, hle, hm, hmm, _, hi⟩
  · cases hcs
    exact ⟨[], none, 0, rfl, fun i hi => by simp at hi⟩
  · cases hcs
    have hlm : len ≤ m := by rw [hmm]; split <;> omega
    have key : ∀ i, i < len → ∃ q : Ac, q.fine w ∧ w.cell? (a.add (i * 5)) = some (.int .i64 q.op) ∧ w.cell? (a.add (i * 5 + 1)) = some (.int .i64 q.n) ∧ w.cell? (a.add (i * 5 + 2)) = some q.vs ∧ w.cell? (a.add (i * 5 + 3)) = some (.string (B q.text)) ∧ w.cell? (a.add (i * 5 + 4)) = some q.vk := by
      intro i hil
      obtain ⟨cs, hc, hr⟩ := hi i (by omega)
      rw [hC] at hc
      obtain ⟨q, rfl, hq⟩ := open_act ht hone hC h0 h1 h2 h3 h4 hk hi0 hCi hr
      obtain ⟨_, _, hat⟩ := World.cells?_some hc
      have c0 := hat 0 (by omega)
      have c1 := hat 1 (by omega)
      have c2 := hat 2 (by omega)
      have c3 := hat 3 (by omega)
      have c4 := hat 4 (by omega)
      rw [Go.Deep.add_add] at c0 c1 c2 c3 c4
      exact ⟨q, hq, c0, c1, c2, c3, c4⟩
    obtain ⟨f, hf⟩ : ∃ f : Nat → Ac, ∀ i, i < len → (f i).fine w ∧ w.cell? (a.add (i * 5)) = some (.int .i64 (f i).op) ∧ w.cell? (a.add (i * 5 + 1)) = some (.int .i64 (f i).n) ∧ w.cell? (a.add (i * 5 + 2)) = some (f i).vs ∧ w.cell? (a.add (i * 5 + 3)) = some (.string (B (f i).text)) ∧ w.cell? (a.add (i * 5 + 4)) = some (f i).vk := by
      refine ⟨fun i => if h : i < len then Classical.choose (key i h) else ⟨0, 0, [], .slice none 0 0, [], [], .slice none 0 0⟩, fun i hil => ?_⟩
      have hs := Classical.choose_spec (key i hil)
      simp only [dif_pos hil]
      exact hs
    obtain ⟨b, off, spot⟩ := a
    refine ⟨(List.range len).map f, some ⟨b, off, spot⟩, cap, by simp, fun i hi => ?_⟩
    have hil : i < len := by simpa using hi
    have hspot : spot = none := by simpa [Addr.add] using World.cell?_spot (hf 0 (by omega)).2.1
    subst hspot
    obtain ⟨hq, c0, c1, c2, c3, c4⟩ := hf i hil
    rw [Go.WideShapes.add_plain] at c0 c1 c2 c3 c4
    have e1 : ((List.range len).map f)[i] = f i := by simp
    rw [e1]
    exact ⟨hq, b, off, rfl, c0, c1, c2, c3, c4⟩
end
end Go.Proofs.Ytmfhipjceeijmaa.A
