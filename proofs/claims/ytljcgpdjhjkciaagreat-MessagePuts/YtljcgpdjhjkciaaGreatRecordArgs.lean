/-
  Entries, lists of entries, of marks and of numbers that came in: what their cells hold.
-/
import Derived.Test.YtljcgpdjhjkciaaGreatEventRow
import Derived.Test.YtljcgpdjhjkciaaGreatRecordSpec
namespace Go.Proofs.YtljcgpdjhjkciaaGreat
open Go.RowKit Go.ChangeShapes Go.WideShapes Go.Deep

/-- An entry, and the slice of its events. -/
abbrev EV : Type := R.En × Value
abbrev enV (e : R.En) (v : Value) : Value := .agg #[.int .i64 e.pos, .int .i64 e.epoch, .string (B e.b.stream), .int .i64 e.b.expect, .int .i64 e.b.session, .int .i64 e.b.seq, v]
def At7 (w : World) (b o : Nat) (e : R.En) (v : Value) : Prop :=
  w.cell? ⟨b, o, none⟩ = some (.int .i64 e.pos) ∧ w.cell? ⟨b, o + 1, none⟩ = some (.int .i64 e.epoch) ∧ w.cell? ⟨b, o + 2, none⟩ = some (.string (B e.b.stream)) ∧ w.cell? ⟨b, o + 3, none⟩ = some (.int .i64 e.b.expect) ∧
    w.cell? ⟨b, o + 4, none⟩ = some (.int .i64 e.b.session) ∧ w.cell? ⟨b, o + 5, none⟩ = some (.int .i64 e.b.seq) ∧ w.cell? ⟨b, o + 6, none⟩ = some v
theorem At7.keep {w w' : World} {b o : Nat} {e : R.En} {v : Value} (h : At7 w b o e v) (hk : ∀ (p : Addr) (u : Value), w.cell? p = some u → w'.cell? p = some u) : At7 w' b o e v := by
  obtain ⟨h0, h1, h2, h3, h4, h5, h6⟩ := h
  exact ⟨hk _ _ h0, hk _ _ h1, hk _ _ h2, hk _ _ h3, hk _ _ h4, hk _ _ h5, hk _ _ h6⟩
theorem below_keeps {w w' : World} (hb : Below w.heap.size w w') (p : Addr) (u : Value) (h : w.cell? p = some u) : w'.cell? p = some u := by
  rw [hb.cell (World.block_lt_of_cell? w p h)]; exact h
def i64B (z : Int) : Prop := -9223372036854775808 ≤ z ∧ z ≤ 9223372036854775807
def ReadsR (w : World) (v : Value) (es : List EV) : Prop :=
  ∃ a cap, v = .slice a es.length cap ∧ es.length ≤ cap ∧ (a = none → cap = 0) ∧ ∀ i (h : i < es.length), ReadsE w es[i].2 es[i].1.b.events ∧ i64B es[i].1.pos ∧ ∃ b off, a = some ⟨b, off, none⟩ ∧ At7 w b (off + i * 7) es[i].1 es[i].2
theorem readsR_below {w w' : World} {v : Value} {es : List EV} (h : ReadsR w v es) (hb : Below w.heap.size w w') : ReadsR w' v es := by
  obtain ⟨a, cap, h1, h2, h3, hx⟩ := h
  refine ⟨a, cap, h1, h2, h3, fun i hi => ?_⟩
  obtain ⟨r, rp, b, off, e, c⟩ := hx i hi
  exact ⟨readsE_below r hb, rp, b, off, e, c.keep (below_keeps hb)⟩
/-- A slice of marks that reads as a list. -/
def ReadsM (w : World) (v : Value) (ms : List R.Mk) : Prop :=
  ∃ a cap, v = .slice a ms.length cap ∧ ms.length ≤ cap ∧ (a = none → cap = 0) ∧ ∀ i (h : i < ms.length), ∃ b off, a = some ⟨b, off, none⟩ ∧ w.cell? ⟨b, off + i * 2, none⟩ = some (.int .i64 ms[i].1) ∧ w.cell? ⟨b, off + i * 2 + 1, none⟩ = some (.int .i64 ms[i].2)
theorem readsM_keep {w w' : World} {v : Value} {ms : List R.Mk} (h : ReadsM w v ms) (hk : ∀ (p : Addr) (u : Value), w.cell? p = some u → w'.cell? p = some u) : ReadsM w' v ms := by
  obtain ⟨a, cap, h1, h2, h3, hx⟩ := h
  refine ⟨a, cap, h1, h2, h3, fun i hi => ?_⟩
  obtain ⟨b, off, e, c0, c1⟩ := hx i hi
  exact ⟨b, off, e, hk _ _ c0, hk _ _ c1⟩
theorem readsM_below {w w' : World} {v : Value} {ms : List R.Mk} (h : ReadsM w v ms) (hb : Below w.heap.size w w') : ReadsM w' v ms := readsM_keep h (below_keeps hb)
def ReadsI (w : World) (v : Value) (zs : List Int) : Prop :=
  ∃ a cap, v = .slice a zs.length cap ∧ ∀ i (h : i < zs.length), i64B zs[i] ∧ ∃ b off, a = some ⟨b, off, none⟩ ∧ w.cell? ⟨b, off + i, none⟩ = some (.int .i64 zs[i])
theorem readsI_below {w w' : World} {v : Value} {zs : List Int} (h : ReadsI w v zs) (hb : Below w.heap.size w w') : ReadsI w' v zs := by
  obtain ⟨a, cap, h1, hx⟩ := h
  refine ⟨a, cap, h1, fun i hi => ?_⟩
  obtain ⟨hz, b, off, e, c⟩ := hx i hi
  exact ⟨hz, b, off, e, below_keeps hb _ _ c⟩

/-- What the types of entries are. -/
def EnTy (P : Program) (t tb tl te : TypeId) : Prop := ∃ e0 e1 e2 f0 f1 f2 f3 f4 g0 g1 : Field, P.underlying t = some (.struct #[e0, e1, e2]) ∧ (e0.offset = 0 ∧ e1.offset = 1 ∧ e2.offset = 2) ∧ (P.cellsOf e0.type = 1 ∧ P.cellsOf e1.type = 1 ∧ P.cellsOf e2.type = 5 ∧ P.cellsOf t = 7) ∧
  (P.underlying e0.type = some (.int .i64) ∧ P.underlying e1.type = some (.int .i64) ∧ e2.type = tb) ∧ P.underlying tb = some (.struct #[f0, f1, f2, f3, f4]) ∧ oneCellFields P #[f0, f1, f2, f3, f4] = true ∧ P.cellsOf tb = 5 ∧
  (P.underlying f0.type = some .string ∧ P.underlying f1.type = some (.int .i64) ∧ P.underlying f2.type = some (.int .i64) ∧ P.underlying f3.type = some (.int .i64) ∧ f4.type = tl) ∧
  P.underlying tl = some (.slice te) ∧ P.underlying te = some (.struct #[g0, g1]) ∧ oneCellFields P #[g0, g1] = true ∧ P.cellsOf te = 2 ∧ P.underlying g0.type = some .string ∧ P.underlying g1.type = some .string
theorem Tryz.enTy : EnTy Tryz.prog 53 28 26 55 :=
  ⟨_, _, _, _, _, _, _, _, _, _, Tryz.underlying53, ⟨rfl, rfl, rfl⟩, ⟨by kernel_rfl, by kernel_rfl, by kernel_rfl, by kernel_rfl⟩, ⟨Tryz.underlying3, Tryz.underlying3, rfl⟩, Tryz.underlying28, by kernel_rfl, by kernel_rfl,
    ⟨Tryz.underlying9, Tryz.underlying3, Tryz.underlying3, Tryz.underlying3, rfl⟩, Tryz.underlying26, Tryz.underlying55, by kernel_rfl, by kernel_rfl, Tryz.underlying9, Tryz.underlying9⟩

section
variable {H : Type} {enc : TypeId × Value → H} {P : Program} {w : World} {base : Nat} {spare : Nat → Bool} {held : Bool}
theorem open_entry {t tb tl te : TypeId} {fuel : Nat} {cs : List Value} {x : DataW H × List MemPlace} (hT : EnTy P t tb tl te) (h : DataW.trod enc P w base spare held fuel t cs = some x) :
    ∃ (e : R.En) (v : Value), cs = [.int .i64 e.pos, .int .i64 e.epoch, .string (B e.b.stream), .int .i64 e.b.expect, .int .i64 e.b.session, .int .i64 e.b.seq, v] ∧ ReadsE w v e.b.events ∧ i64B e.pos := by
  obtain ⟨e0, e1, e2, f0, f1, f2, f3, f4, g0, g1, ht, ⟨o0, o1, o2⟩, ⟨k0, k1, k2, kC⟩, ⟨i0, i1, i2⟩, hb, hone, hC, ⟨h0, h1, h2, h3, h4⟩, hl, hte, hone2, hC2, hg0, hg1⟩ := hT
  obtain ⟨xs, n, _, _, hcl, hxl, hf⟩ := DataW.trod_struct ht h
  have r0 := hf 0 e0 rfl
  have r1 := hf 1 e1 rfl
  have r2 := hf 2 e2 rfl
  rw [o0, k0] at r0
  rw [o1, k1] at r1
  rw [o2, k2, i2] at r2
  rw [kC] at hcl
  match cs, hcl, xs, hxl with
  | [a, b, c, d, e, f, g], _, [y0, y1, y2], _ =>
    simp at r0 r1 r2
    obtain ⟨s0, q0, _, w0⟩ := DataW.trod_int i0 r0
    obtain ⟨s1, q1, _, w1⟩ := DataW.trod_int i1 r1
    obtain ⟨bt, v, hbt, hre, _⟩ := open_batch hb hone hC h0 h1 h2 h3 h4 hl hte hone2 hC2 hg0 hg1 r2
    cases q0
    cases q1
    cases hbt
    exact ⟨⟨s0, s1, bt⟩, _, rfl, hre, i64_bd w0⟩
theorem arg_entry {r : Reach} {b0 : Nat} {t tb tl te : TypeId} {v : Value} {d : DataW H} {p : List MemPlace} (hT : EnTy P t tb tl te) (hv : Value.okWide P w r b0 t v) (h : DataW.Trod enc P w base spare held t v d p) :
    ∃ (e : R.En) (u : Value), v = enV e u ∧ ReadsE w u e.b.events ∧ i64B e.pos := by
  have hT2 := hT
  obtain ⟨_, _, _, _, _, _, _, _, _, _, ht, _⟩ := hT2
  obtain ⟨cs, rfl, _⟩ := okWide_struct ht hv
  obtain ⟨fuel, hf⟩ := h
  obtain ⟨e, u, he, hr, hp⟩ := open_entry hT hf
  refine ⟨e, u, ?_, hr, hp⟩
  obtain ⟨l⟩ := cs
  have he2 : l = [.int .i64 e.pos, .int .i64 e.epoch, .string (B e.b.stream), .int .i64 e.b.expect, .int .i64 e.b.session, .int .i64 e.b.seq, u] := he
  rw [he2]
theorem arg_entries {r : Reach} {b0 : Nat} {ts t tb tl te : TypeId} {v : Value} {d : DataW H} {p : List MemPlace} (hT : EnTy P t tb tl te) (hts : P.underlying ts = some (.slice t)) (hv : Value.okWide P w r b0 ts v) (h : DataW.Trod enc P w base spare held ts v d p) : ∃ es, ReadsR w v es := by
  obtain ⟨a0, len, cap, rfl⟩ := okWide_slice hts hv
  obtain ⟨fuel, hf⟩ := h
  have hC : P.cellsOf t = 7 := by obtain ⟨_, _, _, _, _, _, _, _, _, _, _, _, k, _⟩ := hT; exact k.2.2.2
  have hf2 : DataW.trod enc P w base spare held fuel ts [.slice a0 len cap] = some (d, p) := hf
  rcases open_slice hts hf2 with ⟨hcs, _⟩ | ⟨a, len1, cap1, m, n, D, Pl, hcs, hb, hle, hm, hmm, _, hi⟩
  · cases hcs
    exact ⟨[], none, 0, rfl, Nat.le_refl _, fun _ => rfl, fun i hi => by simp at hi⟩
  · cases hcs
    have hlm : len ≤ m := by rw [hmm]; split <;> omega
    have key : ∀ i, i < len → ∃ q : EV, ReadsE w q.2 q.1.b.events ∧ i64B q.1.pos ∧ w.cell? (a.add (i * 7)) = some (.int .i64 q.1.pos) ∧ w.cell? (a.add (i * 7 + 1)) = some (.int .i64 q.1.epoch) ∧ w.cell? (a.add (i * 7 + 2)) = some (.string (B q.1.b.stream)) ∧
        w.cell? (a.add (i * 7 + 3)) = some (.int .i64 q.1.b.expect) ∧ w.cell? (a.add (i * 7 + 4)) = some (.int .i64 q.1.b.session) ∧ w.cell? (a.add (i * 7 + 5)) = some (.int .i64 q.1.b.seq) ∧ w.cell? (a.add (i * 7 + 6)) = some q.2 := by
      intro i hil
      obtain ⟨cs, hc, hr⟩ := hi i (by omega)
      rw [hC] at hc
      obtain ⟨e, u, rfl, hre, hp⟩ := open_entry hT hr
      obtain ⟨_, _, hat⟩ := World.cells?_some hc
      have c0 := hat 0 (by omega)
      have c1 := hat 1 (by omega)
      have c2 := hat 2 (by omega)
      have c3 := hat 3 (by omega)
      have c4 := hat 4 (by omega)
      have c5 := hat 5 (by omega)
      have c6 := hat 6 (by omega)
      rw [Go.Deep.add_add] at c0 c1 c2 c3 c4 c5 c6
      exact ⟨(e, u), hre, hp, c0, c1, c2, c3, c4, c5, c6⟩
    obtain ⟨f, hf⟩ : ∃ f : Nat → EV, ∀ i, i < len → ReadsE w (f i).2 (f i).1.b.events ∧ i64B (f i).1.pos ∧ w.cell? (a.add (i * 7)) = some (.int .i64 (f i).1.pos) ∧ w.cell? (a.add (i * 7 + 1)) = some (.int .i64 (f i).1.epoch) ∧ w.cell? (a.add (i * 7 + 2)) = some (.string (B (f i).1.b.stream)) ∧
        w.cell? (a.add (i * 7 + 3)) = some (.int .i64 (f i).1.b.expect) ∧ w.cell? (a.add (i * 7 + 4)) = some (.int .i64 (f i).1.b.session) ∧ w.cell? (a.add (i * 7 + 5)) = some (.int .i64 (f i).1.b.seq) ∧ w.cell? (a.add (i * 7 + 6)) = some (f i).2 := by
      refine ⟨fun i => if h : i < len then Classical.choose (key i h) else (⟨0, 0, ⟨[], 0, 0, 0, []⟩⟩, .slice none 0 0), fun i hil => ?_⟩
      have hs := Classical.choose_spec (key i hil)
      simp only [dif_pos hil]
      exact hs
    obtain ⟨b, off, spot⟩ := a
    refine ⟨(List.range len).map f, some ⟨b, off, spot⟩, cap, by simp, by simpa using hle, fun h => (by cases h), fun i hi => ?_⟩
    have hil : i < len := by simpa using hi
    have hspot : spot = none := by simpa [Addr.add] using World.cell?_spot (hf 0 (by omega)).2.2.1
    subst hspot
    obtain ⟨hre, hp, c0, c1, c2, c3, c4, c5, c6⟩ := hf i hil
    rw [Go.WideShapes.add_plain] at c0 c1 c2 c3 c4 c5 c6
    have e1 : ((List.range len).map f)[i] = f i := by simp
    rw [e1]
    exact ⟨hre, hp, b, off, rfl, c0, c1, c2, c3, c4, c5, c6⟩
theorem open_mark {t : TypeId} {f0 f1 : Field} {fuel : Nat} {cs : List Value} {x : DataW H × List MemPlace} (ht : P.underlying t = some (.struct #[f0, f1])) (hone : oneCellFields P #[f0, f1] = true) (hC : P.cellsOf t = 2)
    (h0 : P.underlying f0.type = some (.int .i64)) (h1 : P.underlying f1.type = some (.int .i64)) (h : DataW.trod enc P w base spare held fuel t cs = some x) : ∃ m : R.Mk, cs = [.int .i64 m.1, .int .i64 m.2] := by
  obtain ⟨hl, n, hf⟩ := fields_one ht hone hC h
  obtain ⟨v0, y0, c0, r0⟩ := hf 0 f0 rfl
  obtain ⟨v1, y1, c1, r1⟩ := hf 1 f1 rfl
  obtain ⟨s0, e0, _⟩ := DataW.trod_int h0 r0
  obtain ⟨s1, e1, _⟩ := DataW.trod_int h1 r1
  cases e0
  cases e1
  refine ⟨(s0, s1), ?_⟩
  match cs, hl with
  | [a, b], _ =>
    cases c0
    cases c1
    rfl
theorem arg_marks {r : Reach} {b0 : Nat} {ts t : TypeId} {f0 f1 : Field} {v : Value} {d : DataW H} {p : List MemPlace} (hts : P.underlying ts = some (.slice t)) (ht : P.underlying t = some (.struct #[f0, f1])) (hone : oneCellFields P #[f0, f1] = true) (hC : P.cellsOf t = 2)
    (h0 : P.underlying f0.type = some (.int .i64)) (h1 : P.underlying f1.type = some (.int .i64)) (hv : Value.okWide P w r b0 ts v) (h : DataW.Trod enc P w base spare held ts v d p) : ∃ ms, ReadsM w v ms := by
  obtain ⟨a0, len, cap, rfl⟩ := okWide_slice hts hv
  obtain ⟨fuel, hf⟩ := h
  have hf2 : DataW.trod enc P w base spare held fuel ts [.slice a0 len cap] = some (d, p) := hf
  rcases open_slice hts hf2 with ⟨hcs, _⟩ | ⟨a, len1, cap1, m, n, D, Pl, hcs, hb, hle, hm, hmm, _, hi⟩
  · cases hcs
    exact ⟨[], none, 0, rfl, Nat.le_refl _, fun _ => rfl, fun i hi => by simp at hi⟩
  · cases hcs
    have hlm : len ≤ m := by rw [hmm]; split <;> omega
    have key : ∀ i, i < len → ∃ q : R.Mk, w.cell? (a.add (i * 2)) = some (.int .i64 q.1) ∧ w.cell? (a.add (i * 2 + 1)) = some (.int .i64 q.2) := by
      intro i hil
      obtain ⟨cs, hc, hr⟩ := hi i (by omega)
      rw [hC] at hc
      obtain ⟨e, rfl⟩ := open_mark ht hone hC h0 h1 hr
      obtain ⟨_, _, hat⟩ := World.cells?_some hc
      have c0 := hat 0 (by omega)
      have c1 := hat 1 (by omega)
      rw [Go.Deep.add_add] at c0 c1
      exact ⟨e, c0, c1⟩
    obtain ⟨f, hf⟩ : ∃ f : Nat → R.Mk, ∀ i, i < len → w.cell? (a.add (i * 2)) = some (.int .i64 (f i).1) ∧ w.cell? (a.add (i * 2 + 1)) = some (.int .i64 (f i).2) := by
      refine ⟨fun i => if h : i < len then Classical.choose (key i h) else (0, 0), fun i hil => ?_⟩
      have hs := Classical.choose_spec (key i hil)
      simp only [dif_pos hil]
      exact hs
    obtain ⟨b, off, spot⟩ := a
    refine ⟨(List.range len).map f, some ⟨b, off, spot⟩, cap, by simp, by simpa using hle, fun h => (by cases h), fun i hi => ?_⟩
    have hil : i < len := by simpa using hi
    have hspot : spot = none := by simpa [Addr.add] using World.cell?_spot (hf 0 (by omega)).1
    subst hspot
    obtain ⟨c0, c1⟩ := hf i hil
    rw [Go.WideShapes.add_plain] at c0 c1
    have e1 : ((List.range len).map f)[i] = f i := by simp
    rw [e1]
    exact ⟨b, off, rfl, c0, c1⟩
theorem arg_ints {r : Reach} {b0 : Nat} {ts t : TypeId} {v : Value} {d : DataW H} {p : List MemPlace} (hts : P.underlying ts = some (.slice t)) (ht : P.underlying t = some (.int .i64)) (hC : P.cellsOf t = 1)
    (hv : Value.okWide P w r b0 ts v) (h : DataW.Trod enc P w base spare held ts v d p) : ∃ zs, ReadsI w v zs := by
  obtain ⟨a0, len, cap, rfl⟩ := okWide_slice hts hv
  obtain ⟨fuel, hf⟩ := h
  have hf2 : DataW.trod enc P w base spare held fuel ts [.slice a0 len cap] = some (d, p) := hf
  rcases open_slice hts hf2 with ⟨hcs, _⟩ | ⟨a, len1, cap1, m, n, D, Pl, hcs, hb, hle, hm, hmm, _, hi⟩
  · cases hcs
    exact ⟨[], none, 0, rfl, fun i hi => by simp at hi⟩
  · cases hcs
    have hlm : len ≤ m := by rw [hmm]; split <;> omega
    have key : ∀ i, i < len → ∃ q : Int, i64B q ∧ w.cell? (a.add i) = some (.int .i64 q) := by
      intro i hil
      obtain ⟨cs, hc, hr⟩ := hi i (by omega)
      rw [hC] at hc
      obtain ⟨_, hl1, hat⟩ := World.cells?_some hc
      have c0 := hat 0 (by omega)
      rw [Go.Deep.add_add] at c0
      match cs, hl1 with
      | [x], _ =>
        obtain ⟨s0, q0, _, w0⟩ := DataW.trod_int ht hr
        cases q0
        exact ⟨s0, i64_bd w0, by simpa using c0⟩
    obtain ⟨f, hf⟩ : ∃ f : Nat → Int, ∀ i, i < len → i64B (f i) ∧ w.cell? (a.add i) = some (.int .i64 (f i)) := by
      refine ⟨fun i => if h : i < len then Classical.choose (key i h) else 0, fun i hil => ?_⟩
      have hs := Classical.choose_spec (key i hil)
      simp only [dif_pos hil]
      exact hs
    obtain ⟨b, off, spot⟩ := a
    refine ⟨(List.range len).map f, some ⟨b, off, spot⟩, cap, by simp, fun i hi => ?_⟩
    have hil : i < len := by simpa using hi
    have hspot : spot = none := by simpa [Addr.add] using World.cell?_spot (hf 0 (by omega)).2
    subst hspot
    obtain ⟨hz, c0⟩ := hf i hil
    rw [Go.WideShapes.add_plain] at c0
    have e1 : ((List.range len).map f)[i] = f i := by simp
    rw [e1]
    exact ⟨hz, b, off, rfl, c0⟩
end
end Go.Proofs.YtljcgpdjhjkciaaGreat
