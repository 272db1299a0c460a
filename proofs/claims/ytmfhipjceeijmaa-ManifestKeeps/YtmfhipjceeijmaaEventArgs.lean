/-
  Events, lists of events and batches that came in: what their cells hold.
-/
import Derived.Test.YtmfhipjceeijmaaBase
import Derived.Test.YtmfhipjceeijmaaEventMore
import Derived.Deep.Slices
import Derived.Deep.Fields
import Derived.ChangeSame
namespace Go.Proofs.Ytmfhipjceeijmaa
open Go.RowKit Go.ChangeShapes Go.WideShapes Go.Deep

section
variable {H : Type} {enc : TypeId × Value → H} {P : Program} {w : World} {base : Nat} {spare : Nat → Bool} {held : Bool}

/-- A struct all of whose fields are of one cell: each cell reads by itself. -/
theorem fields_one {t : TypeId} {fs : Array Field} {fuel : Nat} {cs : List Value} {x : DataW H × List MemPlace} (ht : P.underlying t = some (.struct fs)) (hone : oneCellFields P fs = true) (hC : P.cellsOf t = fs.size)
    (h : DataW.trod enc P w base spare held fuel t cs = some x) :
    cs.length = fs.size ∧ ∃ n, ∀ (j : Nat) (f : Field), fs[j]? = some f → ∃ v y, cs[j]? = some v ∧ DataW.trod enc P w base spare held n f.type [v] = some y := by
  obtain ⟨ys, n, _, _, hcl, hyl, hf⟩ := DataW.trod_struct ht h
  refine ⟨hcl.trans hC, n, fun j f hj => ?_⟩
  obtain ⟨ho, hk⟩ := hone_of hone j f hj
  have hjl : j < fs.size := (Array.getElem?_eq_some_iff.1 hj).1
  have hjc : j < cs.length := by omega
  have h1 := hf j f hj
  rw [ho, hk, List.drop_eq_getElem_cons hjc] at h1
  exact ⟨cs[j], ys[j]'(by omega), List.getElem?_eq_getElem hjc, h1.trans (List.getElem?_eq_getElem (by omega))⟩

theorem open_event {t : TypeId} {f0 f1 : Field} {fuel : Nat} {cs : List Value} {x : DataW H × List MemPlace} (ht : P.underlying t = some (.struct #[f0, f1])) (hone : oneCellFields P #[f0, f1] = true) (hC : P.cellsOf t = 2)
    (h0 : P.underlying f0.type = some .string) (h1 : P.underlying f1.type = some .string) (h : DataW.trod enc P w base spare held fuel t cs = some x) : ∃ e : E.Ev, cs = [.string (B e.1), .string (B e.2)] := by
  obtain ⟨hl, n, hf⟩ := fields_one ht hone hC h
  obtain ⟨v0, y0, c0, r0⟩ := hf 0 f0 rfl
  obtain ⟨v1, y1, c1, r1⟩ := hf 1 f1 rfl
  obtain ⟨s0, e0, _⟩ := DataW.trod_string h0 r0
  obtain ⟨s1, e1, _⟩ := DataW.trod_string h1 r1
  cases e0
  cases e1
  refine ⟨(L s0, L s1), ?_⟩
  rw [B_L, B_L]
  match cs, hl with
  | [a, b], _ =>
    cases c0
    cases c1
    rfl

/-- A slice of events that reads as a list. -/
def ReadsE (w : World) (v : Value) (evs : List E.Ev) : Prop :=
  ∃ a cap, v = .slice a evs.length cap ∧ evs.length ≤ cap ∧ (a = none → cap = 0) ∧ ∀ i (h : i < evs.length), ∃ b off, a = some ⟨b, off, none⟩ ∧ w.cell? ⟨b, off + i * 2, none⟩ = some (.string (B evs[i].1)) ∧ w.cell? ⟨b, off + i * 2 + 1, none⟩ = some (.string (B evs[i].2))
theorem readsE_below {w w' : World} {v : Value} {evs : List E.Ev} (h : ReadsE w v evs) (hb : Below w.heap.size w w') : ReadsE w' v evs := by
  obtain ⟨a, cap, h1, h2, h3, hx⟩ := h
  refine ⟨a, cap, h1, h2, h3, fun i hi => ?_⟩
  obtain ⟨b, off, e, c0, c1⟩ := hx i hi
  refine ⟨b, off, e, ?_, ?_⟩
  · rw [hb.cell (World.block_lt_of_cell? w _ c0)]; exact c0
  · rw [hb.cell (World.block_lt_of_cell? w _ c1)]; exact c1

theorem open_events {t te : TypeId} {f0 f1 : Field} {fuel : Nat} {v : Value} {x : DataW H × List MemPlace} (ht : P.underlying t = some (.slice te)) (hte : P.underlying te = some (.struct #[f0, f1])) (hone : oneCellFields P #[f0, f1] = true) (hC : P.cellsOf te = 2)
    (h0 : P.underlying f0.type = some .string) (h1 : P.underlying f1.type = some .string) (h : DataW.trod enc P w base spare held fuel t [v] = some x) : ∃ evs, ReadsE w v evs := by
  rcases open_slice ht h with ⟨hcs, _⟩ | ⟨a, len, cap, m, n, D, Pl, hcs, hb, hl, hm, hmm, _, hi⟩
  · cases hcs
    exact ⟨[], none, 0, rfl, Nat.le_refl _, fun _ => rfl, fun i hi => by simp at hi⟩
  · cases hcs
    have hlm : len ≤ m := by rw [hmm]; split <;> omega
    have key : ∀ i, i < len → ∃ e : E.Ev, w.cell? (a.add (i * 2)) = some (.string (B e.1)) ∧ w.cell? (a.add (i * 2 + 1)) = some (.string (B e.2)) := by
      intro i hil
      obtain ⟨cs, hc, hr⟩ := hi i (by omega)
      rw [hC] at hc
      obtain ⟨e, rfl⟩ := open_event hte hone hC h0 h1 hr
      obtain ⟨_, _, hat⟩ := World.cells?_some hc
      refine ⟨e, ?_, ?_⟩
      · have := hat 0 (by omega)
        rw [Go.Deep.add_add] at this
        exact this
      · have := hat 1 (by omega)
        rw [Go.Deep.add_add] at this
        exact this
    obtain ⟨f, hf⟩ : ∃ f : Nat → E.Ev, ∀ i, i < len → w.cell? (a.add (i * 2)) = some (.string (B (f i).1)) ∧ w.cell? (a.add (i * 2 + 1)) = some (.string (B (f i).2)) := by
      refine ⟨fun i => if h : i < len then Classical.choose (key i h) else ([], []), fun i hil => ?_⟩
      have hs := Classical.choose_spec (key i hil)
      simp only [dif_pos hil]
      exact hs
    obtain ⟨b, off, spot⟩ := a
    refine ⟨(List.range len).map f, some ⟨b, off, spot⟩, cap, by simp, by simpa using hl, fun h => (by cases h), fun i hi => ?_⟩
    have hil : i < len := by simpa using hi
    have hspot : spot = none := by simpa [Addr.add] using World.cell?_spot (hf 0 (by omega)).1
    subst hspot
    obtain ⟨c0, c1⟩ := hf i hil
    rw [Go.WideShapes.add_plain] at c0 c1
    refine ⟨b, off, rfl, ?_, ?_⟩
    · simpa using c0
    · simpa [Nat.add_assoc] using c1

theorem open_batch {t te tl : TypeId} {g0 g1 : Field} {f0 f1 f2 f3 f4 : Field} {fuel : Nat} {cs : List Value} {x : DataW H × List MemPlace} (ht : P.underlying t = some (.struct #[f0, f1, f2, f3, f4])) (hone : oneCellFields P #[f0, f1, f2, f3, f4] = true) (hC : P.cellsOf t = 5)
    (h0 : P.underlying f0.type = some .string) (h1 : P.underlying f1.type = some (.int .i64)) (h2 : P.underlying f2.type = some (.int .i64)) (h3 : P.underlying f3.type = some (.int .i64)) (h4 : f4.type = tl)
    (hl : P.underlying tl = some (.slice te)) (hte : P.underlying te = some (.struct #[g0, g1])) (hone2 : oneCellFields P #[g0, g1] = true) (hC2 : P.cellsOf te = 2) (hg0 : P.underlying g0.type = some .string) (hg1 : P.underlying g1.type = some .string)
    (h : DataW.trod enc P w base spare held fuel t cs = some x) :
    ∃ (b : E.Bat) (v : Value), cs = [.string (B b.stream), .int .i64 b.expect, .int .i64 b.session, .int .i64 b.seq, v] ∧ ReadsE w v b.events ∧ (Lit.int .i64 b.expect).wf = true ∧ (Lit.int .i64 b.session).wf = true ∧ (Lit.int .i64 b.seq).wf = true := by
  obtain ⟨hln, n, hf⟩ := fields_one ht hone hC h
  obtain ⟨v0, y0, c0, r0⟩ := hf 0 f0 rfl
  obtain ⟨v1, y1, c1, r1⟩ := hf 1 f1 rfl
  obtain ⟨v2, y2, c2, r2⟩ := hf 2 f2 rfl
  obtain ⟨v3, y3, c3, r3⟩ := hf 3 f3 rfl
  obtain ⟨v4, y4, c4, r4⟩ := hf 4 f4 rfl
  obtain ⟨s0, e0, _⟩ := DataW.trod_string h0 r0
  obtain ⟨s1, e1, _, w1⟩ := DataW.trod_int h1 r1
  obtain ⟨s2, e2, _, w2⟩ := DataW.trod_int h2 r2
  obtain ⟨s3, e3, _, w3⟩ := DataW.trod_int h3 r3
  rw [h4] at r4
  obtain ⟨evs, he⟩ := open_events hl hte hone2 hC2 hg0 hg1 r4
  cases e0
  cases e1
  cases e2
  cases e3
  refine ⟨⟨L s0, s1, s2, s3, evs⟩, v4, ?_, he, w1, w2, w3⟩
  rw [B_L]
  match cs, hln with
  | [a, b, c, d, e], _ =>
    cases c0
    cases c1
    cases c2
    cases c3
    cases c4
    rfl
theorem arg_event {r : Reach} {b0 : Nat} {t : TypeId} {f0 f1 : Field} {v : Value} {d : DataW H} {p : List MemPlace} (ht : P.underlying t = some (.struct #[f0, f1])) (hone : oneCellFields P #[f0, f1] = true) (hC : P.cellsOf t = 2)
    (h0 : P.underlying f0.type = some .string) (h1 : P.underlying f1.type = some .string) (hv : Value.okWide P w r b0 t v) (h : DataW.Trod enc P w base spare held t v d p) : ∃ e : E.Ev, v = .agg #[.string (B e.1), .string (B e.2)] := by
  obtain ⟨cs, rfl, _⟩ := okWide_struct ht hv
  obtain ⟨fuel, hf⟩ := h
  obtain ⟨e, he⟩ := open_event ht hone hC h0 h1 hf
  refine ⟨e, ?_⟩
  obtain ⟨l⟩ := cs
  have he2 : l = [.string (B e.1), .string (B e.2)] := he
  rw [he2]
theorem arg_batch {r : Reach} {b0 : Nat} {t te tl : TypeId} {g0 g1 : Field} {f0 f1 f2 f3 f4 : Field} {v : Value} {d : DataW H} {p : List MemPlace} (ht : P.underlying t = some (.struct #[f0, f1, f2, f3, f4])) (hone : oneCellFields P #[f0, f1, f2, f3, f4] = true) (hC : P.cellsOf t = 5)
    (h0 : P.underlying f0.type = some .string) (h1 : P.underlying f1.type = some (.int .i64)) (h2 : P.underlying f2.type = some (.int .i64)) (h3 : P.underlying f3.type = some (.int .i64)) (h4 : f4.type = tl)
    (hl : P.underlying tl = some (.slice te)) (hte : P.underlying te = some (.struct #[g0, g1])) (hone2 : oneCellFields P #[g0, g1] = true) (hC2 : P.cellsOf te = 2) (hg0 : P.underlying g0.type = some .string) (hg1 : P.underlying g1.type = some .string)
    (hv : Value.okWide P w r b0 t v) (h : DataW.Trod enc P w base spare held t v d p) :
    ∃ (b : E.Bat) (u : Value), v = .agg #[.string (B b.stream), .int .i64 b.expect, .int .i64 b.session, .int .i64 b.seq, u] ∧ ReadsE w u b.events ∧ (Lit.int .i64 b.expect).wf = true ∧ (Lit.int .i64 b.session).wf = true ∧ (Lit.int .i64 b.seq).wf = true := by
  obtain ⟨cs, rfl, _⟩ := okWide_struct ht hv
  obtain ⟨fuel, hf⟩ := h
  obtain ⟨b, u, he, hr⟩ := open_batch ht hone hC h0 h1 h2 h3 h4 hl hte hone2 hC2 hg0 hg1 hf
  refine ⟨b, u, ?_, hr⟩
  obtain ⟨l⟩ := cs
  have he2 : l = [.string (B b.stream), .int .i64 b.expect, .int .i64 b.session, .int .i64 b.seq, u] := he
  rw [he2]
end
abbrev evV (e : E.Ev) : Value := .agg #[.string (B e.1), .string (B e.2)]
abbrev batV (b : E.Bat) (v : Value) : Value := .agg #[.string (B b.stream), .int .i64 b.expect, .int .i64 b.session, .int .i64 b.seq, v]
/-- What a box holds, once calls have made memory behind it. -/
theorem box_at {w w1 : World} {cs : Array Value} {t : TypeId} (hb : Below (w.alloc (.cells cs t)).heap.size (w.alloc (.cells cs t)) w1) (j : Nat) : w1.cell? ⟨w.heap.size, j, none⟩ = cs[j]? := by
  rw [hb.cell (by simp), World.cell?_alloc_new]
theorem below_box {w w1 : World} {cs : Array Value} {t : TypeId} (hb : Below (w.alloc (.cells cs t)).heap.size (w.alloc (.cells cs t)) w1) : Below w.heap.size w w1 :=
  ((Below.refl _ w).alloc (Nat.le_refl _) _).trans (hb.mono (by simp))
/-- What calls keep: all that was there. -/
def KeptB (w0 a : World) : Prop := Below w0.heap.size w0 a
theorem keptB_drew {w0 a : World} (h : KeptB w0 a) : KeptB w0 a.drew := Below.drew h
theorem keptB_call {w0 a b : World} (h : KeptB w0 a) (hb : Below a.heap.size a b) : KeptB w0 b := Below.trans h (hb.mono h.size)
def BoxB (w0 : World) (g : Nat) (x y : Value) (a : World) : Prop := a.cell? ⟨g, 0, none⟩ = some x ∧ a.cell? ⟨g, 1, none⟩ = some y ∧ KeptB w0 a
theorem boxB_drew {w0 : World} {g : Nat} {x y : Value} {a : World} (h : BoxB w0 g x y a) : BoxB w0 g x y a.drew := ⟨h.1, h.2.1, keptB_drew h.2.2⟩
theorem boxB_call {w0 : World} {g : Nat} {x y : Value} {a b : World} (h : BoxB w0 g x y a) (hb : Below a.heap.size a b) : BoxB w0 g x y b :=
  ⟨by rw [hb.cell (World.block_lt_of_cell? a _ h.1)]; exact h.1, by rw [hb.cell (World.block_lt_of_cell? a _ h.2.1)]; exact h.2.1, keptB_call h.2.2 hb⟩
end Go.Proofs.Ytmfhipjceeijmaa
