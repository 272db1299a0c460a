/-
  Own texts, joined: EventArgs DiskArgs DiskDC
-/
import Derived.Test.YtmfhipjceeijmaaGreatDoorBun9
import Derived.Test.YtmfhipjceeijmaaGreatDoorBun4
import Derived.Deep.Slices
import Derived.Deep.Fields
import Derived.ChangeSame
import Derived.Test.YtmfhipjceeijmaaGreatDoorBun5

/-
  Events, lists of events and batches that came in: what their cells hold.
-/
namespace Go.Proofs.YtmfhipjceeijmaaGreatDoor
open Go.RowKit Go.ChangeShapes Go.WideShapes Go.Deep

section
variable {H : Type} {enc : TypeId × Value → H} {P : Program} {w : World} {base : Nat} {spare : Nat → Bool} {held : Bool}

/-- A struct all of whose fields are of one cell: each cell reads by itself. -/
theorem fields_one {t : TypeId} {fs : Array Field} {fuel : Nat} {cs : List Value} {x : DataW H × List MemPlace} (ht : P.underlying t = some (.struct fs)) (hone : oneCellFields P fs = true) (hC : P.cellsOf t = fs.size)
    (h : DataW.trod enc P w base spare held fuel t cs = some x) :
    cs.length = fs.size ∧ ∃ n, ∀ (j : Nat) (f : Field), fs[j]? = some f → ∃ v y, cs[j]? = some v ∧ DataW.trod enc P w base spare held n f.type [v] = some y := by
  obtain ⟨ys, n, _, _, hcl, hyl, hf⟩ := DataW.trod_struct ht h
  refine ⟨hcl.trans hC, n, fun j f hj => ?_⟩
  obtain ⟨ho, hk⟩ := hone_of hone j f hj
  have hjl : j < fs.size := (Array.getElem?_eq_some_iff.1 hj).1
  have hjc : j < cs.length := by omega
  have h1 := hf j f hj
  rw [ho, hk, List.drop_eq_getElem_cons hjc] at h1
  exact ⟨cs[j], ys[j]'(by omega), List.getElem?_eq_getElem hjc, h1.trans (List.getElem?_eq_getElem (by omega))⟩

theorem open_event {t : TypeId} {f0 f1 : Field} {fuel : Nat} {cs : List Value} {x : DataW H × List MemPlace} (ht : P.underlying t = some (.struct #[f0, f1])) (hone : oneCellFields P #[f0, f1] = true) (hC : P.cellsOf t = 2)
    (h0 : P.underlying f0.type = some .string) (h1 : P.underlying f1.type = some .string) (h : DataW.trod enc P w base spare held fuel t cs = some x) : ∃ e : E.Ev, cs = [.string (B e.1), .string (B e.2)] := by
  obtain ⟨hl, n, hf⟩ := fields_one ht hone hC h
  obtain ⟨v0, y0, c0, r0⟩ := hf 0 f0 rfl
  obtain ⟨v1, y1, c1, r1⟩ := hf 1 f1 rfl
  obtain ⟨s0, e0, _⟩ := DataW.trod_string h0 r0
  obtain ⟨s1, e1, _⟩ := DataW.trod_string h1 r1
  cases e0
  cases e1
  refine ⟨(L s0, L s1), ?_⟩
  rw [B_L, B_L]
  match cs, hl with
  | [a, b], _ =>
    cases c0
    cases c1
    rfl

/-- A slice of events that reads as a list. -/
def ReadsE (w : World) (v : Value) (evs : List E.Ev) : Prop :=
  ∃ a cap, v = .slice a evs.length cap ∧ evs.length ≤ cap ∧ (a = none → cap = 0) ∧ ∀ i (h : i < evs.length), ∃ b off, a = some ⟨b, off, none⟩ ∧ w.cell? ⟨b, off + i * 2, none⟩ = some (.string (B evs[i].1)) ∧ w.cell? ⟨b, off + i * 2 + 1, none⟩ = some (.string (B evs[i].2))
theorem readsE_below {w w' : World} {v : Value} {evs : List E.Ev} (h : ReadsE w v evs) (hb : Below w.heap.size w w') : ReadsE w' v evs := by
  obtain ⟨a, cap, h1, h2, h3, hx⟩ := h
  refine ⟨a, cap, h1, h2, h3, fun i hi => ?_⟩
  obtain ⟨b, off, e, c0, c1⟩ := hx i hi
  refine ⟨b, off, e, ?_, ?_⟩
  · rw [hb.cell (World.block_lt_of_cell? w _ c0)]; exact c0
  · rw [hb.cell (World.block_lt_of_cell? w _ c1)]; exact c1

theorem open_events {t te : TypeId} {f0 f1 : Field} {fuel : Nat} {v : Value} {x : DataW H × List MemPlace} (ht : P.underlying t = some (.slice te)) (hte : P.underlying te = some (.struct #[f0, f1])) (hone : oneCellFields P #[f0, f1] = true) (hC : P.cellsOf te = 2)
    (h0 : P.underlying f0.type = some .string) (h1 : P.underlying f1.type = some .string) (h : DataW.trod enc P w base spare held fuel t [v] = some x) : ∃ evs, ReadsE w v evs := by
  rcases open_slice ht h with ⟨hcs, _⟩ | ⟨a, len, cap, m, n, D, Pl, hcs, hb, hl, hm, hmm, _, hi⟩
  · cases hcs
    exact ⟨[], none, 0, rfl, Nat.le_refl _, fun _ => rfl, fun i hi => by simp at hi⟩
  · cases hcs
    have hlm : len ≤ m := by rw [hmm]; split <;> omega
    have key : ∀ i, i < len → ∃ e : E.Ev, w.cell? (a.add (i * 2)) = some (.string (B e.1)) ∧ w.cell? (a.add (i * 2 + 1)) = some (.string (B e.2)) := by
      intro i hil
      obtain ⟨cs, hc, hr⟩ := hi i (by omega)
      rw [hC] at hc
      obtain ⟨e, rfl⟩ := open_event hte hone hC h0 h1 hr
      obtain ⟨_, _, hat⟩ := World.cells?_some hc
      refine ⟨e, ?_, ?_⟩
      · have := hat 0 (by omega)
        rw [Go.Deep.add_add] at this
        exact this
      · have := hat 1 (by omega)
        rw [Go.Deep.add_add] at this
        exact this
    obtain ⟨f, hf⟩ : ∃ f : Nat → E.Ev, ∀ i, i < len → w.cell? (a.add (i * 2)) = some (.string (B (f i).1)) ∧ w.cell? (a.add (i * 2 + 1)) = some (.string (B (f i).2)) := by
      refine ⟨fun i => if h : i < len then Classical.choose (key i h) else ([], []), fun i hil => ?_⟩
      have hs := Classical.choose_spec (key i hil)
      simp only [dif_pos hil]
      exact hs
    obtain ⟨b, off, spot⟩ := a
    refine ⟨(List.range len).map f, some ⟨b, off, spot⟩, cap, by simp, by simpa using hl, fun h => (by cases h), fun i hi => ?_⟩
    have hil : i < len := by simpa using hi
    have hspot : spot = none := by simpa [Addr.add] using World.cell?_spot (hf 0 (by omega)).1
    subst hspot
    obtain ⟨c0, c1⟩ := hf i hil
    rw [Go.WideShapes.add_plain] at c0 c1
    refine ⟨b, off, rfl, ?_, ?_⟩
    · simpa using c0
    · simpa [Nat.add_assoc] using c1

theorem open_batch {t te tl : TypeId} {g0 g1 : Field} {f0 f1 f2 f3 f4 : Field} {fuel : Nat} {cs : List Value} {x : DataW H × List MemPlace} (ht : P.underlying t = some (.struct #[f0, f1, f2, f3, f4])) (hone : oneCellFields P #[f0, f1, f2, f3, f4] = true) (hC : P.cellsOf t = 5)
    (h0 : P.underlying f0.type = some .string) (h1 : P.underlying f1.type = some (.int .i64)) (h2 : P.underlying f2.type = some (.int .i64)) (h3 : P.underlying f3.type = some (.int .i64)) (h4 : f4.type = tl)
    (hl : P.underlying tl = some (.slice te)) (hte : P.underlying te = some (.struct #[g0, g1])) (hone2 : oneCellFields P #[g0, g1] = true) (hC2 : P.cellsOf te = 2) (hg0 : P.underlying g0.type = some .string) (hg1 : P.underlying g1.type = some .string)
    (h : DataW.trod enc P w base spare held fuel t cs = some x) :
    ∃ (b : E.Bat) (v : Value), cs = [.string (B b.stream), .int .i64 b.expect, .int .i64 b.session, .int .i64 b.seq, v] ∧ ReadsE w v b.events ∧ (Lit.int .i64 b.expect).wf = true ∧ (Lit.int .i64 b.session).wf = true ∧ (Lit.int .i64 b.seq).wf = true := by
  obtain ⟨hln, n, hf⟩ := fields_one ht hone hC h
  obtain ⟨v0, y0, c0, r0⟩ := hf 0 f0 rfl
  obtain ⟨v1, y1, c1, r1⟩ := hf 1 f1 rfl
  obtain ⟨v2, y2, c2, r2⟩ := hf 2 f2 rfl
  obtain ⟨v3, y3, c3, r3⟩ := hf 3 f3 rfl
  obtain ⟨v4, y4, c4, r4⟩ := hf 4 f4 rfl
  obtain ⟨s0, e0, _⟩ := DataW.trod_string h0 r0
  obtain ⟨s1, e1, _, w1⟩ := DataW.trod_int h1 r1
  obtain ⟨s2, e2, _, w2⟩ := DataW.trod_int h2 r2
  obtain ⟨s3, e3, _, w3⟩ := DataW.trod_int h3 r3
  rw [h4] at r4
  obtain ⟨evs, he⟩ := open_events hl hte hone2 hC2 hg0 hg1 r4
  cases e0
  cases e1
  cases e2
  cases e3
  refine ⟨⟨L s0, s1, s2, s3, evs⟩, v4, ?_, he, w1, w2, w3⟩
  rw [B_L]
  match cs, hln with
  | [a, b, c, d, e], _ =>
    cases c0
    cases c1
    cases c2
    cases c3
    cases c4
    rfl
theorem arg_event {r : Reach} {b0 : Nat} {t : TypeId} {f0 f1 : Field} {v : Value} {d : DataW H} {p : List MemPlace} (ht : P.underlying t = some (.struct #[f0, f1])) (hone : oneCellFields P #[f0, f1] = true) (hC : P.cellsOf t = 2)
    (h0 : P.underlying f0.type = some .string) (h1 : P.underlying f1.type = some .string) (hv : Value.okWide P w r b0 t v) (h : DataW.Trod enc P w base spare held t v d p) : ∃ e : E.Ev, v = .agg #[.string (B e.1), .string (B e.2)] := by
  obtain ⟨cs, rfl, _⟩ := okWide_struct ht hv
  obtain ⟨fuel, hf⟩ := h
  obtain ⟨e, he⟩ := open_event ht hone hC h0 h1 hf
  refine ⟨e, ?_⟩
  obtain ⟨l⟩ := cs
  have he2 : l = [.string (B e.1), .string (B e.2)] := he
  rw [he2]
theorem arg_batch {r : Reach} {b0 : Nat} {t te tl : TypeId} {g0 g1 : Field} {f0 f1 f2 f3 f4 : Field} {v : Value} {d : DataW H} {p : List MemPlace} (ht : P.underlying t = some (.struct #[f0, f1, f2, f3, f4])) (hone : oneCellFields P #[f0, f1, f2, f3, f4] = true) (hC : P.cellsOf t = 5)
    (h0 : P.underlying f0.type = some .string) (h1 : P.underlying f1.type = some (.int .i64)) (h2 : P.underlying f2.type = some (.int .i64)) (h3 : P.underlying f3.type = some (.int .i64)) (h4 : f4.type = tl)
    (hl : P.underlying tl = some (.slice te)) (hte : P.underlying te = some (.struct #[g0, g1])) (hone2 : oneCellFields P #[g0, g1] = true) (hC2 : P.cellsOf te = 2) (hg0 : P.underlying g0.type = some .string) (hg1 : P.underlying g1.type = some .string)
    (hv : Value.okWide P w r b0 t v) (h : DataW.Trod enc P w base spare held t v d p) :
    ∃ (b : E.Bat) (u : Value), v = .agg #[.string (B b.stream), .int .i64 b.expect, .int .i64 b.session, .int .i64 b.seq, u] ∧ ReadsE w u b.events ∧ (Lit.int .i64 b.expect).wf = true ∧ (Lit.int .i64 b.session).wf = true ∧ (Lit.int .i64 b.seq).wf = true := by
  obtain ⟨cs, rfl, _⟩ := okWide_struct ht hv
  obtain ⟨fuel, hf⟩ := h
  obtain ⟨b, u, he, hr⟩ := open_batch ht hone hC h0 h1 h2 h3 h4 hl hte hone2 hC2 hg0 hg1 hf
  refine ⟨b, u, ?_, hr⟩
  obtain ⟨l⟩ := cs
  have he2 : l = [.string (B b.stream), .int .i64 b.expect, .int .i64 b.session, .int .i64 b.seq, u] := he
  rw [he2]
end
abbrev evV (e : E.Ev) : Value := .agg #[.string (B e.1), .string (B e.2)]
abbrev batV (b : E.Bat) (v : Value) : Value := .agg #[.string (B b.stream), .int .i64 b.expect, .int .i64 b.session, .int .i64 b.seq, v]
/-- What a box holds, once calls have made memory behind it. -/
theorem box_at {w w1 : World} {cs : Array Value} {t : TypeId} (hb : Below (w.alloc (.cells cs t)).heap.size (w.alloc (.cells cs t)) w1) (j : Nat) : w1.cell? ⟨w.heap.size, j, none⟩ = cs[j]? := by
  rw [hb.cell (by simp), World.cell?_alloc_new]
theorem below_box {w w1 : World} {cs : Array Value} {t : TypeId} (hb : Below (w.alloc (.cells cs t)).heap.size (w.alloc (.cells cs t)) w1) : Below w.heap.size w w1 :=
  ((Below.refl _ w).alloc (Nat.le_refl _) _).trans (hb.mono (by simp))
/-- What calls keep: all that was there. -/
def KeptB (w0 a : World) : Prop := Below w0.heap.size w0 a
theorem keptB_drew {w0 a : World} (h : KeptB w0 a) : KeptB w0 a.drew := Below.drew h
theorem keptB_call {w0 a b : World} (h : KeptB w0 a) (hb : Below a.heap.size a b) : KeptB w0 b := Below.trans h (hb.mono h.size)
def BoxB (w0 : World) (g : Nat) (x y : Value) (a : World) : Prop := a.cell? ⟨g, 0, none⟩ = some x ∧ a.cell? ⟨g, 1, none⟩ = some y ∧ KeptB w0 a
theorem boxB_drew {w0 : World} {g : Nat} {x y : Value} {a : World} (h : BoxB w0 g x y a) : BoxB w0 g x y a.drew := ⟨h.1, h.2.1, keptB_drew h.2.2⟩
theorem boxB_call {w0 : World} {g : Nat} {x y : Value} {a b : World} (h : BoxB w0 g x y a) (hb : Below a.heap.size a b) : BoxB w0 g x y b :=
  ⟨by rw [hb.cell (World.block_lt_of_cell? a _ h.1)]; exact h.1, by rw [hb.cell (World.block_lt_of_cell? a _ h.2.1)]; exact h.2.1, keptB_call h.2.2 hb⟩
end Go.Proofs.YtmfhipjceeijmaaGreatDoor

/-
  The arguments of chapter 8's laws: rows of acts, rows of numbers.
-/
namespace Go.Proofs.YtmfhipjceeijmaaGreatDoor.D
open Go.RowKit Go.ChangeShapes Go.WideShapes Go.Deep

def i64B (z : Int) : Prop := -9223372036854775808 ≤ z ∧ z ≤ 9223372036854775807
theorem keeps {w w' : World} (hb : Below w.heap.size w w') (p : Addr) (u : Value) (h : w.cell? p = some u) : w'.cell? p = some u := by
  rw [hb.cell (World.block_lt_of_cell? w p h)]; exact h
def ReadsI (w : World) (v : Value) (zs : List Int) : Prop :=
  ∃ a cap, v = .slice a zs.length cap ∧ ∀ i (h : i < zs.length), i64B zs[i] ∧ ∃ b off, a = some ⟨b, off, none⟩ ∧ w.cell? ⟨b, off + i, none⟩ = some (.int .i64 zs[i])
theorem readsI_below {w w' : World} {v : Value} {zs : List Int} (h : ReadsI w v zs) (hb : Below w.heap.size w w') : ReadsI w' v zs := by
  obtain ⟨a, cap, h1, hx⟩ := h
  refine ⟨a, cap, h1, fun i hi => ?_⟩
  obtain ⟨h2, b, off, h3, h4⟩ := hx i hi
  exact ⟨h2, b, off, h3, keeps hb _ _ h4⟩
/-- An act, and the slice in which its numbers lie. -/
structure Ac where
  op : Int
  name : Tx
  more : Tx
  keep : List Int
  v : Value
def ReadsA (w : World) (v : Value) (acs : List Ac) : Prop :=
  ∃ a cap, v = .slice a acs.length cap ∧ ∀ i (h : i < acs.length), (ReadsI w acs[i].v acs[i].keep ∧ i64B acs[i].op ∧ acs[i].name.length ≤ 9223372036854775807 ∧ acs[i].more.length ≤ 9223372036854775807) ∧ ∃ b off, a = some ⟨b, off, none⟩ ∧ w.cell? ⟨b, off + i * 4, none⟩ = some (.int .i64 acs[i].op) ∧ w.cell? ⟨b, off + i * 4 + 1, none⟩ = some (.string (B acs[i].name)) ∧ w.cell? ⟨b, off + i * 4 + 2, none⟩ = some (.string (B acs[i].more)) ∧ w.cell? ⟨b, off + i * 4 + 3, none⟩ = some acs[i].v
theorem readsA_below {w w' : World} {v : Value} {acs : List Ac} (h : ReadsA w v acs) (hb : Below w.heap.size w w') : ReadsA w' v acs := by
  obtain ⟨a, cap, h1, hx⟩ := h
  refine ⟨a, cap, h1, fun i hi => ?_⟩
  obtain ⟨⟨h2, h3⟩, b, off, h4, c0, c1, c2, c3⟩ := hx i hi
  exact ⟨⟨readsI_below h2 hb, h3⟩, b, off, h4, keeps hb _ _ c0, keeps hb _ _ c1, keeps hb _ _ c2, keeps hb _ _ c3⟩

section
variable {H : Type} {enc : TypeId × Value → H} {P : Program} {w : World} {base : Nat} {spare : Nat → Bool} {held : Bool}
theorem open_ints {ts t : TypeId} {fuel : Nat} {v : Value} {x : DataW H × List MemPlace} (hts : P.underlying ts = some (.slice t)) (ht : P.underlying t = some (.int .i64)) (hC : P.cellsOf t = 1)
    (h : DataW.trod enc P w base spare held fuel ts [v] = some x) : ∃ zs, ReadsI w v zs := by
  rcases open_slice hts h with ⟨hcs, _⟩ | ⟨a, len, cap, m, n, D, Pl, hcs, hb, hle, hm, hmm, _, hi⟩
  · cases hcs
    exact ⟨[], none, 0, rfl, fun i hi => by simp at hi⟩
  · cases hcs
    have hlm : len ≤ m := by rw [hmm]; split <;> omega
    have key : ∀ i, i < len → ∃ q : Int, i64B q ∧ w.cell? (a.add i) = some (.int .i64 q) := by
      intro i hil
      obtain ⟨cs, hc, hr⟩ := hi i (by omega)
      rw [hC] at hc
      obtain ⟨_, hl1, hat⟩ := World.cells?_some hc
      have c0 := hat 0 (by omega)
      rw [Go.Deep.add_add] at c0
      match cs, hl1 with
      | [x], _ =>
        obtain ⟨s0, q0, _, w0⟩ := DataW.trod_int ht hr
        cases q0
        exact ⟨s0, i64_bd w0, by simpa using c0⟩
    obtain ⟨f, hf⟩ : ∃ f : Nat → Int, ∀ i, i < len → i64B (f i) ∧ w.cell? (a.add i) = some (.int .i64 (f i)) := by
      refine ⟨fun i => if h : i < len then Classical.choose (key i h) else 0, fun i hil => ?_⟩
      have hs := Classical.choose_spec (key i hil)
      simp only [dif_pos hil]
      exact hs
    obtain ⟨b, off, spot⟩ := a
    refine ⟨(List.range len).map f, some ⟨b, off, spot⟩, cap, by simp, fun i hi => ?_⟩
    have hil : i < len := by simpa using hi
    have hspot : spot = none := by simpa [Addr.add] using World.cell?_spot (hf 0 (by omega)).2
    subst hspot
    obtain ⟨hz, c0⟩ := hf i hil
    rw [Go.WideShapes.add_plain] at c0
    have e1 : ((List.range len).map f)[i] = f i := by simp
    rw [e1]
    exact ⟨hz, b, off, rfl, c0⟩
theorem open_act {t tk ti : TypeId} {f0 f1 f2 f3 : Field} {fuel : Nat} {cs : List Value} {x : DataW H × List MemPlace} (ht : P.underlying t = some (.struct #[f0, f1, f2, f3])) (hone : oneCellFields P #[f0, f1, f2, f3] = true) (hC : P.cellsOf t = 4)
    (h0 : P.underlying f0.type = some (.int .i64)) (h1 : P.underlying f1.type = some .string) (h2 : P.underlying f2.type = some .string) (h3 : f3.type = tk) (hk : P.underlying tk = some (.slice ti)) (hi : P.underlying ti = some (.int .i64)) (hCi : P.cellsOf ti = 1)
    (h : DataW.trod enc P w base spare held fuel t cs = some x) :
    ∃ a : Ac, cs = [.int .i64 a.op, .string (B a.name), .string (B a.more), a.v] ∧ ReadsI w a.v a.keep ∧ i64B a.op ∧ a.name.length ≤ 9223372036854775807 ∧ a.more.length ≤ 9223372036854775807 := by
  obtain ⟨hln, n, hf⟩ := fields_one ht hone hC h
  obtain ⟨v0, y0, c0, r0⟩ := hf 0 f0 rfl
  obtain ⟨v1, y1, c1, r1⟩ := hf 1 f1 rfl
  obtain ⟨v2, y2, c2, r2⟩ := hf 2 f2 rfl
  obtain ⟨v3, y3, c3, r3⟩ := hf 3 f3 rfl
  obtain ⟨s0, e0, _, w0⟩ := DataW.trod_int h0 r0
  obtain ⟨s1, e1, _, b1⟩ := DataW.trod_string h1 r1
  obtain ⟨s2, e2, _, b2⟩ := DataW.trod_string h2 r2
  rw [h3] at r3
  obtain ⟨zs, hz⟩ := open_ints hk hi hCi r3
  cases e0
  cases e1
  cases e2
  refine ⟨⟨s0, L s1, L s2, zs, v3⟩, ?_, hz, i64_bd w0, by rw [L_len]; exact b1, by rw [L_len]; exact b2⟩
  rw [B_L, B_L]
  match cs, hln with
  | [a, b, c, d], _ =>
    cases c0
    cases c1
    cases c2
    cases c3
    rfl
theorem arg_acts {r : Reach} {b0 : Nat} {ts t tk ti : TypeId} {f0 f1 f2 f3 : Field} {v : Value} {d : DataW H} {p : List MemPlace} (hts : P.underlying ts = some (.slice t)) (ht : P.underlying t = some (.struct #[f0, f1, f2, f3])) (hone : oneCellFields P #[f0, f1, f2, f3] = true) (hC : P.cellsOf t = 4)
    (h0 : P.underlying f0.type = some (.int .i64)) (h1 : P.underlying f1.type = some .string) (h2 : P.underlying f2.type = some .string) (h3 : f3.type = tk) (hk : P.underlying tk = some (.slice ti)) (hi0 : P.underlying ti = some (.int .i64)) (hCi : P.cellsOf ti = 1)
    (hv : Value.okWide P w r b0 ts v) (h : DataW.Trod enc P w base spare held ts v d p) : ∃ acs, ReadsA w v acs := by
  obtain ⟨a0, len, cap, rfl⟩ := okWide_slice hts hv
  obtain ⟨fuel, hf⟩ := h
  have hf2 : DataW.trod enc P w base spare held fuel ts [.slice a0 len cap] = some (d, p) := hf
  rcases open_slice hts hf2 with ⟨hcs, _⟩ | ⟨a, len1, cap1, m, n, D, Pl, hcs, hb, hle, hm, hmm, _, hi⟩
  · cases hcs
    exact ⟨[], none, 0, rfl, fun i hi => by simp at hi⟩
  · cases hcs
    have hlm : len ≤ m := by rw [hmm]; split <;> omega
    have key : ∀ i, i < len → ∃ q : Ac, (ReadsI w q.v q.keep ∧ i64B q.op ∧ q.name.length ≤ 9223372036854775807 ∧ q.more.length ≤ 9223372036854775807) ∧ w.cell? (a.add (i * 4)) = some (.int .i64 q.op) ∧ w.cell? (a.add (i * 4 + 1)) = some (.string (B q.name)) ∧ w.cell? (a.add (i * 4 + 2)) = some (.string (B q.more)) ∧ w.cell? (a.add (i * 4 + 3)) = some q.v := by
      intro i hil
      obtain ⟨cs, hc, hr⟩ := hi i (by omega)
      rw [hC] at hc
      obtain ⟨q, rfl, hq⟩ := open_act ht hone hC h0 h1 h2 h3 hk hi0 hCi hr
      obtain ⟨_, _, hat⟩ := World.cells?_some hc
      have c0 := hat 0 (by omega)
      have c1 := hat 1 (by omega)
      have c2 := hat 2 (by omega)
      have c3 := hat 3 (by omega)
      rw [Go.Deep.add_add] at c0 c1 c2 c3
      exact ⟨q, hq, c0, c1, c2, c3⟩
    obtain ⟨f, hf⟩ : ∃ f : Nat → Ac, ∀ i, i < len → (ReadsI w (f i).v (f i).keep ∧ i64B (f i).op ∧ (f i).name.length ≤ 9223372036854775807 ∧ (f i).more.length ≤ 9223372036854775807) ∧ w.cell? (a.add (i * 4)) = some (.int .i64 (f i).op) ∧ w.cell? (a.add (i * 4 + 1)) = some (.string (B (f i).name)) ∧ w.cell? (a.add (i * 4 + 2)) = some (.string (B (f i).more)) ∧ w.cell? (a.add (i * 4 + 3)) = some (f i).v := by
      refine ⟨fun i => if h : i < len then Classical.choose (key i h) else ⟨0, [], [], [], .slice none 0 0⟩, fun i hil => ?_⟩
      have hs := Classical.choose_spec (key i hil)
      simp only [dif_pos hil]
      exact hs
    obtain ⟨b, off, spot⟩ := a
    refine ⟨(List.range len).map f, some ⟨b, off, spot⟩, cap, by simp, fun i hi => ?_⟩
    have hil : i < len := by simpa using hi
    have hspot : spot = none := by simpa [Addr.add] using World.cell?_spot (hf 0 (by omega)).2.1
    subst hspot
    obtain ⟨hq, c0, c1, c2, c3⟩ := hf i hil
    rw [Go.WideShapes.add_plain] at c0 c1 c2 c3
    have e1 : ((List.range len).map f)[i] = f i := by simp
    rw [e1]
    exact ⟨hq, b, off, rfl, c0, c1, c2, c3⟩
end
end Go.Proofs.YtmfhipjceeijmaaGreatDoor.D

/-
  Any disk that keeps its contracts.
-/
namespace Go.Proofs.YtmfhipjceeijmaaGreatDoor.D
open Go.RowKit
attribute [local go_sem] ext_Bd ext_Bl ext_Bt toList_B add_B size_B get_Bt

/-- All that was there stays, but some blocks. -/
structure But (S : Nat → Prop) (w w' : World) : Prop where
  os : w'.os = w.os
  tape : w'.tape = w.tape
  output : w'.output = w.output
  size : w.heap.size ≤ w'.heap.size
  block : ∀ k, k < w.heap.size → ¬ S k → w'.heap[k]? = w.heap[k]?
theorem But.refl (S : Nat → Prop) (w : World) : But S w w := ⟨rfl, rfl, rfl, Nat.le_refl _, fun _ _ _ => rfl⟩
theorem But.trans {S : Nat → Prop} {a b c : World} (h : But S a b) (k : But S b c) : But S a c :=
  ⟨k.os.trans h.os, k.tape.trans h.tape, k.output.trans h.output, Nat.le_trans h.size k.size, fun i hi hs => (k.block i (Nat.lt_of_lt_of_le hi h.size) hs).trans (h.block i hi hs)⟩
theorem But.of_below {S : Nat → Prop} {w w' : World} (h : Below w.heap.size w w') : But S w w' := ⟨h.os, h.tape, h.output, h.size, fun k hk _ => h.block k hk⟩
/-- A disk's blocks behind a call: those that it had, or new ones. -/
def Grow (S : Nat → Prop) (w : World) (S2 : Nat → Prop) : Prop := ∀ k, S2 k → S k ∨ w.heap.size ≤ k
theorem Grow.wide {S S2 : Nat → Prop} {w w0 : World} (h : Grow S w S2) (hs : w0.heap.size ≤ w.heap.size) : Grow S w0 S2 := fun k hk => (h k hk).imp id fun h => Nat.le_trans hs h
theorem Grow.next {S S2 S3 : Nat → Prop} {w w2 : World} (h : Grow S w S2) (k : Grow S2 w2 S3) (hs : w.heap.size ≤ w2.heap.size) : Grow S w S3 := fun i hi => by
  rcases k i hi with h2 | h2
  · exact h i h2
  · exact .inr (Nat.le_trans hs h2)
theorem But.next {S S2 : Nat → Prop} {a b c : World} (h : But S a b) (k : But S2 b c) (hg : Grow S a S2) : But S a c :=
  ⟨k.os.trans h.os, k.tape.trans h.tape, k.output.trans h.output, Nat.le_trans h.size k.size, fun i hi hs => (k.block i (Nat.lt_of_lt_of_le hi h.size) fun h2 => by
    rcases hg i h2 with h3 | h3
    · exact hs h3
    · omega).trans (h.block i hi hs)⟩
abbrev dP (p : Nat) : Value := .pointer (some ⟨p, 0, none⟩)
/-- A disk: where it lies (bs: a bound from below, S: its blocks), and what its calls do. -/
structure DC where
  At : Nat → World → Nat → Nat → List F → (Nat → Prop) → Prop
  keep : ∀ {bs : Nat} {w w' : World} {p room : Nat} {l : List F} {S : Nat → Prop}, At bs w p room l S → w.heap.size ≤ w'.heap.size → (∀ k, S k → w'.heap[k]? = w.heap[k]?) → At bs w' p room l S
  low : ∀ {bs : Nat} {w : World} {p room : Nat} {l : List F} {S : Nat → Prop} {k : Nat}, At bs w p room l S → S k → bs ≤ k ∧ k < w.heap.size
  typ : ∀ {bs : Nat} {w : World} {p room : Nat} {l : List F} {S : Nat → Prop} {k : Nat} {c : Array Value} {fr : Nat × Nat}, At bs w p room l S → S k → w.heap[k]? ≠ some (.cells c 114 fr)
  new_ok : ∀ {bs : Nat} {w : World} (room : Nat), bs ≤ w.heap.size → 1 ≤ room → room ≤ 1073741824 →
    Calls Tryz.prog 19 #[.int .i64 (room : Int)] w fun x w' => (∃ p S, x = .returned (.tuple #[dP p, .int .i64 0]) ∧ At bs w' p room [] S ∧ ∀ k, S k → w.heap.size ≤ k) ∧ Below w.heap.size w w'
  new_bad : ∀ {w : World} (room : Int), room < 1 ∨ 1073741824 < room →
    Calls Tryz.prog 19 #[.int .i64 room] w fun x w' => x = .returned (.tuple #[.pointer none, .int .i64 1]) ∧ Below w.heap.size w w'
  append : ∀ {bs : Nat} {w : World} {p room : Nat} {l : List F} {S : Nat → Prop} (n s : Tx) (e : Nat) (l2 : List F), At bs w p room l S → Inv room l → room ≤ 1073741824 → n.length ≤ 100000 → s.length ≤ 1000000000 → D.append room n s l = (e, l2) →
    Calls Tryz.prog 25 #[dP p, .string (B n), .string (B s)] w fun x w' => x = .returned (.int .i64 (e : Int)) ∧ (∃ S2, At bs w' p room (l2) S2 ∧ Grow S w S2) ∧ But S w w'
  sync : ∀ {bs : Nat} {w : World} {p room : Nat} {l : List F} {S : Nat → Prop} (n : Tx) (e : Nat) (l2 : List F), At bs w p room l S → Inv room l → room ≤ 1073741824 → n.length ≤ 100000 → D.sync n l = (e, l2) →
    Calls Tryz.prog 86 #[dP p, .string (B n)] w fun x w' => x = .returned (.int .i64 (e : Int)) ∧ (∃ S2, At bs w' p room (l2) S2 ∧ Grow S w S2) ∧ But S w w'
  rename : ∀ {bs : Nat} {w : World} {p room : Nat} {l : List F} {S : Nat → Prop} (a b : Tx) (e : Nat) (l2 : List F), At bs w p room l S → Inv room l → room ≤ 1073741824 → a.length ≤ 100000 → b.length ≤ 100000 → D.rename a b l = (e, l2) →
    Calls Tryz.prog 61 #[dP p, .string (B a), .string (B b)] w fun x w' => x = .returned (.int .i64 (e : Int)) ∧ (∃ S2, At bs w' p room (l2) S2 ∧ Grow S w S2) ∧ But S w w'
  delete : ∀ {bs : Nat} {w : World} {p room : Nat} {l : List F} {S : Nat → Prop} (n : Tx) (e : Nat) (l2 : List F), At bs w p room l S → Inv room l → room ≤ 1073741824 → n.length ≤ 100000 → D.delete n l = (e, l2) →
    Calls Tryz.prog 30 #[dP p, .string (B n)] w fun x w' => x = .returned (.int .i64 (e : Int)) ∧ (∃ S2, At bs w' p room (l2) S2 ∧ Grow S w S2) ∧ But S w w'
  crash : ∀ {bs : Nat} {w : World} {p room : Nat} {l : List F} {S : Nat → Prop} (ks : List Int) (v : Value), At bs w p room l S → Inv room l → room ≤ 1073741824 → (∀ w', But S w w' → ReadsI w' v ks) → ks.length ≤ 100000 →
    Calls Tryz.prog 28 #[dP p, v] w fun x w' => x = .returned (.tuple #[]) ∧ (∃ S2, At bs w' p room (D.crash ks l) S2 ∧ Grow S w S2) ∧ But S w w'
  read : ∀ {bs : Nat} {w : World} {p room : Nat} {l : List F} {S : Nat → Prop} (n s : Tx) (e : Nat), At bs w p room l S → Inv room l → room ≤ 1073741824 → n.length ≤ 100000 → D.read n l = (s, e) →
    Calls Tryz.prog 36 #[dP p, .string (B n)] w fun x w' => x = .returned (.tuple #[.string (B s), .int .i64 (e : Int)]) ∧ Below w.heap.size w w'
  synced : ∀ {bs : Nat} {w : World} {p room : Nat} {l : List F} {S : Nat → Prop} (n : Tx) (e : Nat), At bs w p room l S → Inv room l → room ≤ 1073741824 → n.length ≤ 100000 → D.synced n l = e →
    Calls Tryz.prog 38 #[dP p, .string (B n)] w fun x w' => x = .returned (.int .i64 (e : Int)) ∧ Below w.heap.size w w'
  used : ∀ {bs : Nat} {w : World} {p room : Nat} {l : List F} {S : Nat → Prop}, At bs w p room l S → Inv room l → room ≤ 1073741824 → 
    Calls Tryz.prog 34 #[dP p] w fun x w' => x = .returned (.int .i64 (D.used l : Int)) ∧ Below w.heap.size w w'
  list : ∀ {bs : Nat} {w : World} {p room : Nat} {l : List F} {S : Nat → Prop}, At bs w p room l S → Inv room l → room ≤ 1073741824 → 
    Calls Tryz.prog 32 #[dP p] w fun x w' => (∃ v, x = .returned v ∧ Reads w' v (strCells (l.map F.name))) ∧ Below w.heap.size w w'
variable {bs : Nat}
theorem DC.below (C : DC) {w w' : World} {p room : Nat} {l : List F} {S : Nat → Prop} (h : C.At bs w p room l S) (hb : Below w.heap.size w w') : C.At bs w' p room l S :=
  C.keep h hb.size fun _ hk => hb.block _ (C.low h hk).2
theorem DC.but (C : DC) {w w' : World} {p room : Nat} {l : List F} {S T : Nat → Prop} (h : C.At bs w p room l S) (hb : But T w w') (hd : ∀ k, S k → ¬ T k) : C.At bs w' p room l S :=
  C.keep h hb.size fun k hk => hb.block k (C.low h hk).2 (hd k hk)
end Go.Proofs.YtmfhipjceeijmaaGreatDoor.D
