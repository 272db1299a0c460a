/-
  The laws' argument with the sizes of its texts, and what small says of them.
-/
import Derived.Test.YtljcgpdjhjkciaaGreatMsgSmall
import Derived.Test.YtljcgpdjhjkciaaGreatEventRef
import Derived.SizedLaws
import Derived.IntWalk
namespace Go.Proofs.YtljcgpdjhjkciaaGreat
open Go.RowKit Go.ChangeShapes Go.WideShapes Go.Deep

def Wt {H : Type} (P : Program) (t : TypeId) (d : DataW H) : Prop := ∀ n ∈ d.weights P t, n ≤ 140737488351232
theorem wt_string {H : Type} {P : Program} {t : TypeId} {l : List UInt8} (h : Wt P t (.lit (.string l) : DataW H)) : l.length ≤ 140737488351232 := h _ (by simp [DataW.weights])
theorem wt_all {H : Type} {P : Program} {e : TypeId} {d : DataW H} {n : Nat} : ∀ {ds : List (DataW H)}, d ∈ ds → n ∈ d.weights P e → n ∈ DataW.weightsAll P e ds
  | x :: r, hd, hn => by
    simp only [DataW.weightsAll, List.mem_append]
    rcases List.mem_cons.1 hd with rfl | h
    · exact .inl hn
    · exact .inr (wt_all h hn)
theorem wt_slice {H : Type} {P : Program} {t e : TypeId} {elems spare : List (DataW H)} {d : DataW H} (ht : P.underlying t = some (.slice e)) (h : Wt P t (.slice elems spare)) (hd : d ∈ elems) : Wt P e d := fun n hn => h n (by
  simp only [DataW.weights, ht, List.mem_cons, List.mem_append]
  exact .inr (.inl (wt_all hd hn)))
theorem wt_struct {H : Type} {P : Program} {t : TypeId} {fs : Array Field} {f : Field} {j : Nat} {parts : List (DataW H)} {d : DataW H} (ht : P.underlying t = some (.struct fs)) (h : Wt P t (.agg parts)) (hf : fs[j]? = some f) (hd : parts[j]? = some d) : Wt P f.type d := fun n hn => h n (by
  simp only [DataW.weights, ht]
  exact DataW.weights_mem_each (by simp [hf]) hd n hn)

section
variable {H : Type} {enc : TypeId × Value → H} {P : Program} {w : World} {base : Nat} {spare : Nat → Bool} {held : Bool}
theorem fields_oneW {t : TypeId} {fs : Array Field} {fuel : Nat} {cs : List Value} {x : DataW H × List MemPlace} (ht : P.underlying t = some (.struct fs)) (hone : oneCellFields P fs = true) (hC : P.cellsOf t = fs.size)
    (h : DataW.trod enc P w base spare held fuel t cs = some x) (hw : Wt P t x.1) :
    cs.length = fs.size ∧ ∃ n, ∀ (j : Nat) (f : Field), fs[j]? = some f → ∃ v y, cs[j]? = some v ∧ DataW.trod enc P w base spare held n f.type [v] = some y ∧ Wt P f.type y.1 := by
  obtain ⟨ys, n, _, hx, hcl, hyl, hf⟩ := DataW.trod_struct ht h
  subst hx
  refine ⟨hcl.trans hC, n, fun j f hj => ?_⟩
  obtain ⟨ho, hk⟩ := hone_of hone j f hj
  have hjl : j < fs.size := (Array.getElem?_eq_some_iff.1 hj).1
  have hjc : j < cs.length := by omega
  have h1 := hf j f hj
  rw [ho, hk, List.drop_eq_getElem_cons hjc] at h1
  have hy : ys[j]? = some (ys[j]'(by omega)) := List.getElem?_eq_getElem (by omega)
  exact ⟨cs[j], ys[j]'(by omega), List.getElem?_eq_getElem hjc, h1.trans hy, wt_struct ht hw hj (by rw [List.getElem?_map, hy]; rfl)⟩
theorem str_wt {t : TypeId} {fuel : Nat} {v : Value} {x : DataW H × List MemPlace} {s : ByteArray} (ht : P.underlying t = some .string) (h : DataW.trod enc P w base spare held fuel t [v] = some x) (hv : v = .string s) (hw : Wt P t x.1) : s.size ≤ 140737488351232 := by
  obtain ⟨s0, q0, rfl, _⟩ := DataW.trod_string ht h
  subst hv
  cases q0
  exact wt_string hw
theorem open_eventW {t : TypeId} {f0 f1 : Field} {fuel : Nat} {cs : List Value} {x : DataW H × List MemPlace} (ht : P.underlying t = some (.struct #[f0, f1])) (hone : oneCellFields P #[f0, f1] = true) (hC : P.cellsOf t = 2)
    (h0 : P.underlying f0.type = some .string) (h1 : P.underlying f1.type = some .string) (h : DataW.trod enc P w base spare held fuel t cs = some x) (hw : Wt P t x.1) : ∃ e : E.Ev, cs = [.string (B e.1), .string (B e.2)] ∧ e.1.length ≤ 140737488351232 ∧ e.2.length ≤ 140737488351232 := by
  obtain ⟨hl, n, hf⟩ := fields_oneW ht hone hC h hw
  obtain ⟨v0, y0, c0, r0, p0⟩ := hf 0 f0 rfl
  obtain ⟨v1, y1, c1, r1, p1⟩ := hf 1 f1 rfl
  obtain ⟨s0, e0, _, _⟩ := DataW.trod_string h0 r0
  obtain ⟨s1, e1, _, _⟩ := DataW.trod_string h1 r1
  cases e0
  cases e1
  have b0 := str_wt h0 r0 rfl p0
  have b1 := str_wt h1 r1 rfl p1
  refine ⟨(L s0, L s1), ?_, by rw [L_len]; exact b0, by rw [L_len]; exact b1⟩
  rw [B_L, B_L]
  match cs, hl with
  | [a, b], _ =>
    cases c0
    cases c1
    rfl
theorem open_eventsW {t te : TypeId} {f0 f1 : Field} {fuel : Nat} {v : Value} {x : DataW H × List MemPlace} (ht : P.underlying t = some (.slice te)) (hte : P.underlying te = some (.struct #[f0, f1])) (hone : oneCellFields P #[f0, f1] = true) (hC : P.cellsOf te = 2)
    (h0 : P.underlying f0.type = some .string) (h1 : P.underlying f1.type = some .string) (h : DataW.trod enc P w base spare held fuel t [v] = some x) (hw : Wt P t x.1) : ∃ evs, ReadsE w v evs ∧ ∀ e ∈ evs, e.1.length ≤ 140737488351232 ∧ e.2.length ≤ 140737488351232 := by
  rcases open_slice ht h with ⟨hcs, _⟩ | ⟨a, len, cap, m, n, D, Pl, hcs, hb, hl, hm, hmm, hx, hi⟩
  · cases hcs
    exact ⟨[], ⟨none, 0, rfl, Nat.le_refl _, fun _ => rfl, fun i hi => by simp at hi⟩, fun e he => by simp at he⟩
  · cases hcs
    subst hx
    have hlm : len ≤ m := by rw [hmm]; split <;> omega
    have key : ∀ i, i < len → ∃ e : E.Ev, (w.cell? (a.add (i * 2)) = some (.string (B e.1)) ∧ w.cell? (a.add (i * 2 + 1)) = some (.string (B e.2))) ∧ e.1.length ≤ 140737488351232 ∧ e.2.length ≤ 140737488351232 := by
      intro i hil
      obtain ⟨cs, hc, hr⟩ := hi i (by omega)
      rw [hC] at hc
      obtain ⟨e, rfl, bz⟩ := open_eventW hte hone hC h0 h1 hr (wt_slice ht hw (List.mem_map.2 ⟨i, List.mem_range.2 hil, rfl⟩))
      obtain ⟨_, _, hat⟩ := World.cells?_some hc
      refine ⟨e, ⟨?_, ?_⟩, bz⟩
      · have := hat 0 (by omega)
        rw [Go.Deep.add_add] at this
        exact this
      · have := hat 1 (by omega)
        rw [Go.Deep.add_add] at this
        exact this
    obtain ⟨f, hf⟩ : ∃ f : Nat → E.Ev, ∀ i, i < len → (w.cell? (a.add (i * 2)) = some (.string (B (f i).1)) ∧ w.cell? (a.add (i * 2 + 1)) = some (.string (B (f i).2))) ∧ (f i).1.length ≤ 140737488351232 ∧ (f i).2.length ≤ 140737488351232 := by
      refine ⟨fun i => if h : i < len then Classical.choose (key i h) else ([], []), fun i hil => ?_⟩
      have hs := Classical.choose_spec (key i hil)
      simp only [dif_pos hil]
      exact hs
    obtain ⟨b, off, spot⟩ := a
    refine ⟨(List.range len).map f, ⟨some ⟨b, off, spot⟩, cap, by simp, by simpa using hl, fun h => (by cases h), fun i hi => ?_⟩, fun e he => by
      obtain ⟨i, hi, rfl⟩ := List.mem_map.1 he
      exact (hf i (List.mem_range.1 hi)).2⟩
    have hil : i < len := by simpa using hi
    have hspot : spot = none := by simpa [Addr.add] using World.cell?_spot (hf 0 (by omega)).1.1
    subst hspot
    obtain ⟨⟨c0, c1⟩, -⟩ := hf i hil
    rw [Go.WideShapes.add_plain] at c0 c1
    refine ⟨b, off, rfl, ?_, ?_⟩
    · simpa using c0
    · simpa [Nat.add_assoc] using c1
theorem open_batchW {t te tl : TypeId} {g0 g1 : Field} {f0 f1 f2 f3 f4 : Field} {fuel : Nat} {cs : List Value} {x : DataW H × List MemPlace} (ht : P.underlying t = some (.struct #[f0, f1, f2, f3, f4])) (hone : oneCellFields P #[f0, f1, f2, f3, f4] = true) (hC : P.cellsOf t = 5)
    (h0 : P.underlying f0.type = some .string) (h1 : P.underlying f1.type = some (.int .i64)) (h2 : P.underlying f2.type = some (.int .i64)) (h3 : P.underlying f3.type = some (.int .i64)) (h4 : f4.type = tl)
    (hl : P.underlying tl = some (.slice te)) (hte : P.underlying te = some (.struct #[g0, g1])) (hone2 : oneCellFields P #[g0, g1] = true) (hC2 : P.cellsOf te = 2) (hg0 : P.underlying g0.type = some .string) (hg1 : P.underlying g1.type = some .string)
    (h : DataW.trod enc P w base spare held fuel t cs = some x) (hw : Wt P t x.1) :
    ∃ (b : E.Bat) (v : Value), cs = [.string (B b.stream), .int .i64 b.expect, .int .i64 b.session, .int .i64 b.seq, v] ∧ ReadsE w v b.events ∧ (Lit.int .i64 b.expect).wf = true ∧ (Lit.int .i64 b.session).wf = true ∧ (Lit.int .i64 b.seq).wf = true ∧ b.stream.length ≤ 140737488351232 ∧ ∀ e ∈ b.events, e.1.length ≤ 140737488351232 ∧ e.2.length ≤ 140737488351232 := by
  obtain ⟨hln, n, hf⟩ := fields_oneW ht hone hC h hw
  obtain ⟨v0, y0, c0, r0, p0⟩ := hf 0 f0 rfl
  obtain ⟨v1, y1, c1, r1, _⟩ := hf 1 f1 rfl
  obtain ⟨v2, y2, c2, r2, _⟩ := hf 2 f2 rfl
  obtain ⟨v3, y3, c3, r3, _⟩ := hf 3 f3 rfl
  obtain ⟨v4, y4, c4, r4, p4⟩ := hf 4 f4 rfl
  obtain ⟨s0, e0, _, _⟩ := DataW.trod_string h0 r0
  obtain ⟨s1, e1, _, w1⟩ := DataW.trod_int h1 r1
  obtain ⟨s2, e2, _, w2⟩ := DataW.trod_int h2 r2
  obtain ⟨s3, e3, _, w3⟩ := DataW.trod_int h3 r3
  rw [h4] at r4 p4
  obtain ⟨evs, he, hz⟩ := open_eventsW hl hte hone2 hC2 hg0 hg1 r4 p4
  cases e0
  have bz0 := str_wt h0 r0 rfl p0
  cases e1
  cases e2
  cases e3
  refine ⟨⟨L s0, s1, s2, s3, evs⟩, v4, ?_, he, w1, w2, w3, by rw [L_len]; exact bz0, hz⟩
  rw [B_L]
  match cs, hln with
  | [a, b, c, d, e], _ =>
    cases c0
    cases c1
    cases c2
    cases c3
    cases c4
    rfl
/-- The texts of a batch are none too long for a machine. -/
def E.Sized (b : E.Bat) : Prop := b.stream.length ≤ 140737488351232 ∧ ∀ e ∈ b.events, e.1.length ≤ 140737488351232 ∧ e.2.length ≤ 140737488351232
theorem E.Sized.small {b : E.Bat} (h : E.Sized b) : E.Small b := E.Small.of (by have := h.1; omega) fun e he => by have := h.2 e he; omega
theorem open_entryW {t tb tl te : TypeId} {fuel : Nat} {cs : List Value} {x : DataW H × List MemPlace} (hT : EnTy P t tb tl te) (h : DataW.trod enc P w base spare held fuel t cs = some x) (hw : Wt P t x.1) :
    ∃ (e : R.En) (v : Value), cs = [.int .i64 e.pos, .int .i64 e.epoch, .string (B e.b.stream), .int .i64 e.b.expect, .int .i64 e.b.session, .int .i64 e.b.seq, v] ∧ ReadsE w v e.b.events ∧ i64B e.pos ∧ E.Sized e.b := by
  obtain ⟨e0, e1, e2, f0, f1, f2, f3, f4, g0, g1, ht, ⟨o0, o1, o2⟩, ⟨k0, k1, k2, kC⟩, ⟨i0, i1, i2⟩, hb, hone, hC, ⟨h0, h1, h2, h3, h4⟩, hl, hte, hone2, hC2, hg0, hg1⟩ := hT
  obtain ⟨xs, n, _, hx, hcl, hxl, hf⟩ := DataW.trod_struct ht h
  subst hx
  have r0 := hf 0 e0 rfl
  have r1 := hf 1 e1 rfl
  have r2 := hf 2 e2 rfl
  rw [o0, k0] at r0
  rw [o1, k1] at r1
  rw [o2, k2, i2] at r2
  rw [kC] at hcl
  match cs, hcl, xs, hxl with
  | [a, b, c, d, e, f, g], _, [y0, y1, y2], _ =>
    simp at r0 r1 r2
    have p2 : Wt P e2.type y2.1 := wt_struct (j := 2) ht hw rfl rfl
    rw [i2] at p2
    obtain ⟨s0, q0, _, w0⟩ := DataW.trod_int i0 r0
    obtain ⟨s1, q1, _, w1⟩ := DataW.trod_int i1 r1
    obtain ⟨bt, v, hbt, hre, _, _, _, bz1, bz2⟩ := open_batchW hb hone hC h0 h1 h2 h3 h4 hl hte hone2 hC2 hg0 hg1 r2 p2
    cases q0
    cases q1
    cases hbt
    exact ⟨⟨s0, s1, bt⟩, _, rfl, hre, i64_bd w0, bz1, bz2⟩
theorem open_entriesW {ts t tb tl te : TypeId} {fuel : Nat} {v : Value} {x : DataW H × List MemPlace} (hT : EnTy P t tb tl te) (hts : P.underlying ts = some (.slice t)) (h : DataW.trod enc P w base spare held fuel ts [v] = some x) (hw : Wt P ts x.1) : ∃ es, ReadsR w v es ∧ ∀ q ∈ es, E.Sized q.1.b := by
  have hC : P.cellsOf t = 7 := by obtain ⟨_, _, _, _, _, _, _, _, _, _, _, _, k, _⟩ := hT; exact k.2.2.2
  rcases open_slice hts h with ⟨hcs, _⟩ | ⟨a, len, cap, m, n, D, Pl, hcs, hb, hle, hm, hmm, hx, hi⟩
  · cases hcs
    exact ⟨[], ⟨none, 0, rfl, Nat.le_refl _, fun _ => rfl, fun i hi => by simp at hi⟩, fun e he => by simp at he⟩
  · cases hcs
    subst hx
    have hlm : len ≤ m := by rw [hmm]; split <;> omega
    have key : ∀ i, i < len → ∃ q : EV, E.Sized q.1.b ∧ ReadsE w q.2 q.1.b.events ∧ i64B q.1.pos ∧ w.cell? (a.add (i * 7)) = some (.int .i64 q.1.pos) ∧ w.cell? (a.add (i * 7 + 1)) = some (.int .i64 q.1.epoch) ∧ w.cell? (a.add (i * 7 + 2)) = some (.string (B q.1.b.stream)) ∧
        w.cell? (a.add (i * 7 + 3)) = some (.int .i64 q.1.b.expect) ∧ w.cell? (a.add (i * 7 + 4)) = some (.int .i64 q.1.b.session) ∧ w.cell? (a.add (i * 7 + 5)) = some (.int .i64 q.1.b.seq) ∧ w.cell? (a.add (i * 7 + 6)) = some q.2 := by
      intro i hil
      obtain ⟨cs, hc, hr⟩ := hi i (by omega)
      rw [hC] at hc
      obtain ⟨e, u, rfl, hre, hp, hsm⟩ := open_entryW hT hr (wt_slice hts hw (List.mem_map.2 ⟨i, List.mem_range.2 hil, rfl⟩))
      obtain ⟨_, _, hat⟩ := World.cells?_some hc
      have c0 := hat 0 (by omega)
      have c1 := hat 1 (by omega)
      have c2 := hat 2 (by omega)
      have c3 := hat 3 (by omega)
      have c4 := hat 4 (by omega)
      have c5 := hat 5 (by omega)
      have c6 := hat 6 (by omega)
      rw [Go.Deep.add_add] at c0 c1 c2 c3 c4 c5 c6
      exact ⟨(e, u), hsm, hre, hp, c0, c1, c2, c3, c4, c5, c6⟩
    obtain ⟨f, hf⟩ : ∃ f : Nat → EV, ∀ i, i < len → E.Sized (f i).1.b ∧ ReadsE w (f i).2 (f i).1.b.events ∧ i64B (f i).1.pos ∧ w.cell? (a.add (i * 7)) = some (.int .i64 (f i).1.pos) ∧ w.cell? (a.add (i * 7 + 1)) = some (.int .i64 (f i).1.epoch) ∧ w.cell? (a.add (i * 7 + 2)) = some (.string (B (f i).1.b.stream)) ∧
        w.cell? (a.add (i * 7 + 3)) = some (.int .i64 (f i).1.b.expect) ∧ w.cell? (a.add (i * 7 + 4)) = some (.int .i64 (f i).1.b.session) ∧ w.cell? (a.add (i * 7 + 5)) = some (.int .i64 (f i).1.b.seq) ∧ w.cell? (a.add (i * 7 + 6)) = some (f i).2 := by
      refine ⟨fun i => if h : i < len then Classical.choose (key i h) else (⟨0, 0, ⟨[], 0, 0, 0, []⟩⟩, .slice none 0 0), fun i hil => ?_⟩
      have hs := Classical.choose_spec (key i hil)
      simp only [dif_pos hil]
      exact hs
    obtain ⟨b, off, spot⟩ := a
    refine ⟨(List.range len).map f, ⟨some ⟨b, off, spot⟩, cap, by simp, by simpa using hle, fun h => (by cases h), fun i hi => ?_⟩, fun e he => by
      obtain ⟨i, hi, rfl⟩ := List.mem_map.1 he
      exact (hf i (List.mem_range.1 hi)).1⟩
    have hil : i < len := by simpa using hi
    have hspot : spot = none := by simpa [Addr.add] using World.cell?_spot (hf 0 (by omega)).2.2.2.1
    subst hspot
    obtain ⟨-, hre, hp, c0, c1, c2, c3, c4, c5, c6⟩ := hf i hil
    rw [Go.WideShapes.add_plain] at c0 c1 c2 c3 c4 c5 c6
    have e1 : ((List.range len).map f)[i] = f i := by simp
    rw [e1]
    exact ⟨hre, hp, b, off, rfl, c0, c1, c2, c3, c4, c5, c6⟩
end
structure Dr.Sized (d : Dr) : Prop where
  en : ∀ q ∈ d.en, E.Sized q.1.b
  ev : ∀ e ∈ d.ev, e.1.length ≤ 140737488351232 ∧ e.2.length ≤ 140737488351232
  bt : E.Sized d.bt
set_option maxRecDepth 100000 in
theorem arg_drawW {H : Type} {enc : TypeId × Value → H} {w : World} {base : Nat} {spare : Nat → Bool} {held : Bool} {r : Reach} {b0 : Nat} {v : Value} {d : DataW H} {p : List MemPlace} (hv : Value.okWide Tryz.prog w r b0 30 v) (h : DataW.Trod enc Tryz.prog w base spare held 30 v d p) (hw : Wt Tryz.prog 30 d) :
    ∃ dr : Dr, v = dr.val ∧ dr.Reads w ∧ dr.Sized := by
  obtain ⟨cs, rfl, _⟩ := okWide_struct Tryz.underlying30 hv
  obtain ⟨fuel, hf⟩ := h
  obtain ⟨l⟩ := cs
  have hf2 : DataW.trod enc Tryz.prog w base spare held fuel 30 l = some (d, p) := hf
  obtain ⟨xs, n, _, hx, hcl, hxl, hF⟩ := DataW.trod_struct Tryz.underlying30 hf2
  cases hx
  rw [show Tryz.prog.cellsOf 30 = 19 by kernel_rfl] at hcl
  have q0 : DataW.trod enc Tryz.prog w base spare held n 3 ((l.drop 0).take (Tryz.prog.cellsOf 3)) = xs[0]? := hF 0 _ rfl
  have q1 : DataW.trod enc Tryz.prog w base spare held n 22 ((l.drop 1).take (Tryz.prog.cellsOf 22)) = xs[1]? := hF 1 _ rfl
  have q2 : DataW.trod enc Tryz.prog w base spare held n 23 ((l.drop 7).take (Tryz.prog.cellsOf 23)) = xs[2]? := hF 2 _ rfl
  have q3 : DataW.trod enc Tryz.prog w base spare held n 23 ((l.drop 8).take (Tryz.prog.cellsOf 23)) = xs[3]? := hF 3 _ rfl
  have q4 : DataW.trod enc Tryz.prog w base spare held n 23 ((l.drop 9).take (Tryz.prog.cellsOf 23)) = xs[4]? := hF 4 _ rfl
  have q5 : DataW.trod enc Tryz.prog w base spare held n 24 ((l.drop 10).take (Tryz.prog.cellsOf 24)) = xs[5]? := hF 5 _ rfl
  have q6 : DataW.trod enc Tryz.prog w base spare held n 25 ((l.drop 11).take (Tryz.prog.cellsOf 25)) = xs[6]? := hF 6 _ rfl
  have q7 : DataW.trod enc Tryz.prog w base spare held n 26 ((l.drop 12).take (Tryz.prog.cellsOf 26)) = xs[7]? := hF 7 _ rfl
  have q8 : DataW.trod enc Tryz.prog w base spare held n 28 ((l.drop 13).take (Tryz.prog.cellsOf 28)) = xs[8]? := hF 8 _ rfl
  have q9 : DataW.trod enc Tryz.prog w base spare held n 9 ((l.drop 18).take (Tryz.prog.cellsOf 9)) = xs[9]? := hF 9 _ rfl
  rw [show Tryz.prog.cellsOf 3 = 1 by kernel_rfl] at q0
  rw [show Tryz.prog.cellsOf 22 = 6 by kernel_rfl] at q1
  rw [show Tryz.prog.cellsOf 23 = 1 by kernel_rfl] at q2 q3 q4
  rw [show Tryz.prog.cellsOf 24 = 1 by kernel_rfl] at q5
  rw [show Tryz.prog.cellsOf 25 = 1 by kernel_rfl] at q6
  rw [show Tryz.prog.cellsOf 26 = 1 by kernel_rfl] at q7
  rw [show Tryz.prog.cellsOf 28 = 5 by kernel_rfl] at q8
  rw [show Tryz.prog.cellsOf 9 = 1 by kernel_rfl] at q9
  match l, hcl, xs, hxl with
  | [a0, a1, a2, a3, a4, a5, a6, a7, a8, a9, a10, a11, a12, a13, a14, a15, a16, a17, a18], _, [y0, y1, y2, y3, y4, y5, y6, y7, y8, y9], _ =>
    have p6 : Wt Tryz.prog 25 y6.1 := wt_struct (j := 6) Tryz.underlying30 hw rfl rfl
    have p7 : Wt Tryz.prog 26 y7.1 := wt_struct (j := 7) Tryz.underlying30 hw rfl rfl
    have p8 : Wt Tryz.prog 28 y8.1 := wt_struct (j := 8) Tryz.underlying30 hw rfl rfl
    simp at q0 q1 q2 q3 q4 q5 q6 q7 q8 q9
    obtain ⟨k, rfl, hk⟩ := int_cell Tryz.underlying3 q0
    obtain ⟨z0, z1, z2, z3, z4, z5, hz, _⟩ := six_ints Tryz.underlying22 Tryz.underlying3 (by kernel_rfl) q1
    cases hz
    obtain ⟨ch, hch⟩ := open_ints Tryz.underlying23 Tryz.underlying3 (by kernel_rfl) q2
    obtain ⟨si, hsi⟩ := open_ints Tryz.underlying23 Tryz.underlying3 (by kernel_rfl) q3
    obtain ⟨bo, hbo⟩ := open_ints Tryz.underlying23 Tryz.underlying3 (by kernel_rfl) q4
    obtain ⟨ms, hms⟩ := open_marks Tryz.underlying24 Tryz.underlying87 (by kernel_rfl) (by kernel_rfl) Tryz.underlying3 Tryz.underlying3 q5
    obtain ⟨es, hes, hsn⟩ := open_entriesW Tryz.enTy Tryz.underlying25 q6 p6
    obtain ⟨evs, hevs, hsv⟩ := open_eventsW Tryz.underlying26 Tryz.underlying55 (by kernel_rfl) (by kernel_rfl) Tryz.underlying9 Tryz.underlying9 q7 p7
    obtain ⟨bt, u, hbt, hre, _, _, _, bz1, bz2⟩ := open_batchW Tryz.underlying28 (by kernel_rfl) (by kernel_rfl) Tryz.underlying9 Tryz.underlying3 Tryz.underlying3 Tryz.underlying3 rfl Tryz.underlying26 Tryz.underlying55 (by kernel_rfl) (by kernel_rfl) Tryz.underlying9 Tryz.underlying9 q8 p8
    cases hbt
    obtain ⟨st, rfl, bz3⟩ := str_cell Tryz.underlying9 q9
    exact ⟨⟨k, z0, z1, z2, z3, z4, z5, ch, si, bo, ms, es, evs, bt, st, _, _, _, _, _, _, _⟩, rfl, ⟨hch, hsi, hbo, hms, hes, hevs, hre, hk, fun q hq => (hsn q hq).small, fun e he => by have := hsv e he; omega, E.Sized.small ⟨bz1, bz2⟩, bz3⟩, hsn, hsv, bz1, bz2⟩
def enOk (n : Nat) (b : E.Bat) : Prop := b.stream.length ≤ n ∧ ∀ i (h : i < b.events.length), i < 30 → b.events[i].1.length ≤ n
theorem enOk.mono {n m : Nat} {b : E.Bat} (h : enOk n b) (hnm : n ≤ m) : enOk m b := ⟨Nat.le_trans h.1 hnm, fun i hi h3 => Nat.le_trans (h.2 i hi h3) hnm⟩
theorem enOk.tiny {n : Nat} {b : E.Bat} (h : enOk n b) (hn : n ≤ 1000000) : E.Tiny b := ⟨Nat.le_trans h.1 hn, fun h8 e he => by
  obtain ⟨i, hi, rfl⟩ := List.mem_iff_getElem.1 he
  exact Nat.le_trans (h.2 i hi (by omega)) hn⟩
structure TinyP (en : List EV) (ev : List E.Ev) (bt : E.Bat) (st : List UInt8) : Prop where
  en : ∀ q ∈ en, E.Tiny q.1.b
  ev : ∀ e ∈ ev, e.1.length ≤ 1000000
  bt : E.Tiny bt
  st : st.length ≤ 1000000
end Go.Proofs.YtljcgpdjhjkciaaGreat
namespace Go.Proofs.YtljcgpdjhjkciaaGreat
open Go.RowKit
attribute [local go_sem] ext_Bd ext_Bl ext_Bt toList_B add_B size_B get_Bt
set_option maxHeartbeats 8000000 in
set_option maxRecDepth 100000 in
theorem small7_z (d : Dr) (w : World) (hr : d.Reads w) (hz : d.Sized) : Calls Tryz.prog 5 #[d.val] w fun x w' => (x = .returned (.bool false) ∨ (x = .returned (.bool true) ∧ TinyP d.en d.ev d.bt d.st)) ∧ Below w.heap.size w w' := by
  obtain ⟨kind, n0, n1, z2, z3, z4, n5, ch, si, bo, ma, en, ev, ⟨st, ex, se, sq, evs⟩, str, vc, vs, vb, vm, ve, vv, vt⟩ := d
  have hen := hr.en
  have hev := hr.ev
  have hbt := hr.bt
  obtain ⟨a1, c1, h1, -⟩ := hr.ch
  obtain ⟨a2, c2, h2, -⟩ := hr.si
  obtain ⟨a3, c3, h3, -⟩ := hr.bo
  obtain ⟨a4, c4, h4, -⟩ := hr.ma
  obtain ⟨a5, c5, h5, -, -, hx5⟩ := hen
  obtain ⟨a6, c6, h6, -, -, hx6⟩ := hev
  obtain ⟨a7, c7, h7, -, -, hx7⟩ := hbt
  dsimp only at h1 h2 h3 h4 h5 h6 h7 hx5 hx6 hx7
  subst h1 h2 h3 h4 h5 h6 h7
  have HX5 := Lib.hid hx5
  have HX6 := Lib.hid hx6
  have HX7 := Lib.hid hx7
  have HZ := Lib.hid hz
  clear hr hx5 hx6 hx7 hz
  dsimp only [Dr.val]
  have hB : Below w.heap.size w (w.alloc (.cells #[.int .i64 kind, .int .i64 n0, .int .i64 n1, .int .i64 z2, .int .i64 z3, .int .i64 z4, .int .i64 n5, .slice a1 ch.length c1, .slice a2 si.length c2, .slice a3 bo.length c3, .slice a4 ma.length c4, .slice a5 en.length c5, .slice a6 ev.length c6, .string (B st), .int .i64 ex, .int .i64 se, .int .i64 sq, .slice a7 evs.length c7, .string (B str)] 30)) := (Below.refl _ w).alloc (Nat.le_refl _) _
  by_cases t0 : 40 < ch.length
  · have q0 : (40 : Int) < (ch.length : Int) := by omega
    go_enter Tryz.func5, Tryz.ntmps5
    go_wp2
    go_ret
    exact ⟨.inl rfl, hB⟩
  have q0 : ¬ (40 : Int) < (ch.length : Int) := by omega
  by_cases t1 : 40 < si.length
  · have q1 : (40 : Int) < (si.length : Int) := by omega
    go_enter Tryz.func5, Tryz.ntmps5
    go_wp2
    go_ret
    exact ⟨.inl rfl, hB⟩
  have q1 : ¬ (40 : Int) < (si.length : Int) := by omega
  by_cases t2 : 40 < bo.length
  · have q2 : (40 : Int) < (bo.length : Int) := by omega
    go_enter Tryz.func5, Tryz.ntmps5
    go_wp2
    go_ret
    exact ⟨.inl rfl, hB⟩
  have q2 : ¬ (40 : Int) < (bo.length : Int) := by omega
  by_cases t3 : 60 < ma.length
  · have q3 : (60 : Int) < (ma.length : Int) := by omega
    go_enter Tryz.func5, Tryz.ntmps5
    go_wp2
    go_ret
    exact ⟨.inl rfl, hB⟩
  have q3 : ¬ (60 : Int) < (ma.length : Int) := by omega
  by_cases t4 : 20 < en.length
  · have q4 : (20 : Int) < (en.length : Int) := by omega
    go_enter Tryz.func5, Tryz.ntmps5
    go_wp2
    go_ret
    exact ⟨.inl rfl, hB⟩
  have q4 : ¬ (20 : Int) < (en.length : Int) := by omega
  by_cases t5 : 40 < ev.length
  · have q5 : (40 : Int) < (ev.length : Int) := by omega
    go_enter Tryz.func5, Tryz.ntmps5
    go_wp2
    go_ret
    exact ⟨.inl rfl, hB⟩
  have q5 : ¬ (40 : Int) < (ev.length : Int) := by omega
  by_cases t6 : 300 < str.length
  · have q6 : (300 : Int) < (str.length : Int) := by omega
    go_enter Tryz.func5, Tryz.ntmps5
    go_wp2
    go_ret
    exact ⟨.inl rfl, hB⟩
  have q6 : ¬ (300 : Int) < (str.length : Int) := by omega
  by_cases t7 : 300 < st.length
  · have q7 : (300 : Int) < (st.length : Int) := by omega
    go_enter Tryz.func5, Tryz.ntmps5
    go_wp2
    go_ret
    exact ⟨.inl rfl, hB⟩
  have q7 : ¬ (300 : Int) < (st.length : Int) := by omega
  by_cases t8 : 20 < evs.length
  · have q8 : (20 : Int) < (evs.length : Int) := by omega
    go_enter Tryz.func5, Tryz.ntmps5
    go_wp2
    go_ret
    exact ⟨.inl rfl, hB⟩
  have q8 : ¬ (20 : Int) < (evs.length : Int) := by omega
  have HW : Hid (∀ j, (w.alloc (.cells #[.int .i64 kind, .int .i64 n0, .int .i64 n1, .int .i64 z2, .int .i64 z3, .int .i64 z4, .int .i64 n5, .slice a1 ch.length c1, .slice a2 si.length c2, .slice a3 bo.length c3, .slice a4 ma.length c4, .slice a5 en.length c5, .slice a6 ev.length c6, .string (B st), .int .i64 ex, .int .i64 se, .int .i64 sq, .slice a7 evs.length c7, .string (B str)] 30)).cell? ⟨w.heap.size, j, none⟩ = #[.int .i64 kind, .int .i64 n0, .int .i64 n1, .int .i64 z2, .int .i64 z3, .int .i64 z4, .int .i64 n5, .slice a1 ch.length c1, .slice a2 si.length c2, .slice a3 bo.length c3, .slice a4 ma.length c4, .slice a5 en.length c5, .slice a6 ev.length c6, .string (B st), .int .i64 ex, .int .i64 se, .int .i64 sq, .slice a7 evs.length c7, .string (B str)][j]?) := Lib.hid fun j => by rw [World.cell?_alloc_new]
  have HB := Lib.hid hB
  clear hB
  go_enter Tryz.func5, Tryz.ntmps5
  go_wp2
  generalize w.alloc (.cells #[.int .i64 kind, .int .i64 n0, .int .i64 n1, .int .i64 z2, .int .i64 z3, .int .i64 z4, .int .i64 n5, .slice a1 ch.length c1, .slice a2 si.length c2, .slice a3 bo.length c3, .slice a4 ma.length c4, .slice a5 en.length c5, .slice a6 ev.length c6, .string (B st), .int .i64 ex, .int .i64 se, .int .i64 sq, .slice a7 evs.length c7, .string (B str)] 30) = W at HW HB ⊢
  have C11 := Lib.hid ((HW.out 11).trans rfl)
  have C12 := Lib.hid ((HW.out 12).trans rfl)
  have C17 := Lib.hid ((HW.out 17).trans rfl)
  clear HW t0 q0 t1 q1 t2 q2 t3 q3 q6 q7
  go_loopw [3, 4] (fun z i wr => ∃ (n k q : Nat), z = .int .i64 n ∧ i = .int .i64 k ∧ k ≤ en.length ∧ wr = W.drewN q ∧ n ≤ k * 8584986789425152 ∧ Hid (∀ i (h : i < en.length), i < k → enOk n en[i].1.b)) (fun _ i _ => en.length - (intOf i).toNat)
  case atStart => exact ⟨0, 0, 0, rfl, rfl, Nat.zero_le _, rfl, Nat.zero_le _, Lib.hid fun i _ h => by omega⟩
  case round =>
    obtain ⟨n, k, q, rfl, rfl, hk, rfl, hn, HN⟩ := hrel
    have hnB : n ≤ 171699735788503040 := by have := Nat.mul_le_mul_right 8584986789425152 hk; omega
    have c11 : (W.drewN q).cell? ⟨w.heap.size, 11, none⟩ = some (.slice a5 en.length c5) := C11.out
    by_cases hlt : k < en.length
    · have hk1 : (k : Int) < (en.length : Int) := by omega
      obtain ⟨hre, -, b1, o1, rfl, hat7⟩ := HX5.out k hlt
      have h7 := hat7.keep (below_keeps HB.out)
      have hre2 := readsE_below hre HB.out
      clear hat7 hre
      have hsz := HZ.out.en en[k] (List.getElem_mem hlt)
      have HNX : Hid (∀ n2, n ≤ n2 → enOk n2 en[k].1.b → ∀ i (h : i < en.length), i < k + 1 → enOk n2 en[i].1.b) := Lib.hid fun n2 h1 h2 i h h3 => by
        by_cases hik : i = k
        · subst hik; exact h2
        · exact (HN.out i h (by omega)).mono h1
      generalize en[k] = p at h7 hre2 hsz HNX
      obtain ⟨⟨ps, ep, ⟨est, eex, ese, esq, eevs⟩⟩, u⟩ := p
      dsimp only at h7 hre2 hsz HNX
      have hes := hsz.1
      have HSE := Lib.hid hsz.2
      clear hsz
      dsimp only at hes HSE
      obtain ⟨ea, ec, rfl, -, -, hxe⟩ := hre2
      have HXE := Lib.hid hxe
      obtain ⟨-, -, y2, -, -, -, y6⟩ := h7
      have HY6 := Lib.hid y6
      have x2 : (W.drewN q).cell? ⟨b1, o1 + k * 7 + 2, none⟩ = some (.string (B est)) := y2
      have x6 : (W.drewN q).cell? ⟨b1, o1 + k * 7 + 6, none⟩ = some (.slice ea eevs.length ec) := y6
      have x6b : (W.drewN q).cell? ⟨b1, o1 + k * 7 + 2 + 4, none⟩ = some (.slice ea eevs.length ec) := y6
      clear hxe y2 y6
      go_wp2
      go_loopw [3, 5] (fun z i wr => ∃ (n2 j q : Nat), z = .int .i64 n2 ∧ i = .int .i64 j ∧ j ≤ eevs.length ∧ wr = W.drewN q ∧ n + est.length ≤ n2 ∧ n2 ≤ k * 8584986789425152 + 140737488351232 + j * 281474976702464 ∧ j ≤ 30 ∧ Hid (∀ i (h : i < eevs.length), i < j → eevs[i].1.length ≤ n2)) (fun _ i _ => eevs.length - (intOf i).toNat)
      case atStart => exact ⟨n + est.length, 0, q, by go_num, rfl, Nat.zero_le _, rfl, Nat.le_refl _, by omega, by omega, Lib.hid fun i _ h => by omega⟩
      case round =>
        obtain ⟨n2, j, q2, rfl, rfl, hj, rfl, hn2, hn3, hj30, HJ⟩ := hrel
        have hn2B : n2 ≤ 190000000000000000 := by have := Nat.mul_le_mul_right 8584986789425152 hk; have := Nat.mul_le_mul_right 281474976702464 hj30; omega
        clear c11 x2 x6 x6b
        have c11 : (W.drewN q2).cell? ⟨w.heap.size, 11, none⟩ = some (.slice (some ⟨b1, o1, none⟩) en.length c5) := C11.out
        have x6 : (W.drewN q2).cell? ⟨b1, o1 + k * 7 + 6, none⟩ = some (.slice ea eevs.length ec) := HY6.out
        have x6b : (W.drewN q2).cell? ⟨b1, o1 + k * 7 + 2 + 4, none⟩ = some (.slice ea eevs.length ec) := HY6.out
        by_cases hjl : j < eevs.length
        · have hj1 : (j : Int) < (eevs.length : Int) := by omega
          by_cases h30 : j < 30
          · have h30i : (j : Int) < 30 := by omega
            obtain ⟨b2, o2, rfl, g0, g1⟩ := HXE.out j hjl
            have z0 : (W.drewN q2).cell? ⟨b2, o2 + j * 2, none⟩ = some (.string (B eevs[j].1)) := g0
            have z1 : (W.drewN q2).cell? ⟨b2, o2 + j * 2 + 1, none⟩ = some (.string (B eevs[j].2)) := g1
            clear g0 g1
            have hej := HSE.out eevs[j] (List.getElem_mem hjl)
            have HJX : Hid (∀ n3, n2 ≤ n3 → eevs[j].1.length ≤ n3 → ∀ i (h : i < eevs.length), i < j + 1 → eevs[i].1.length ≤ n3) := Lib.hid fun n3 h1 h2 i h h3 => by
              by_cases hij : i = j
              · subst hij; exact h2
              · have := HJ.out i h (by omega); omega
            have he1 := hej.1
            have he2 := hej.2
            clear hej
            generalize eevs[j] = e at z0 z1 he1 he2 HJX
            have hw1 : IntKind.i64.wrap ((n2 : Int) + (e.2.length : Int)) = (n2 : Int) + (e.2.length : Int) := IntWalk.i64_in _ ⟨by omega, by omega⟩
            have hw2 : IntKind.i64.wrap ((n2 : Int) + (e.2.length : Int) + (e.1.length : Int)) = (n2 : Int) + (e.2.length : Int) + (e.1.length : Int) := IntWalk.i64_in _ ⟨by omega, by omega⟩
            go_wp2
            have hS : (W.drewN q2).cell? ⟨w.heap.size, 11, none⟩ = some (.slice (some ⟨b1, o1, none⟩) en.length c5) ∧ (W.drewN q2).cell? ⟨b1, o1 + k * 7 + 6, none⟩ = some (.slice (some ⟨b2, o2, none⟩) eevs.length ec) ∧ (W.drewN q2).cell? ⟨b1, o1 + k * 7 + 2 + 4, none⟩ = some (.slice (some ⟨b2, o2, none⟩) eevs.length ec) ∧ (W.drewN q2).cell? ⟨b2, o2 + j * 2, none⟩ = some (.string (B e.1)) ∧ (W.drewN q2).cell? ⟨b2, o2 + j * 2 + 1, none⟩ = some (.string (B e.2)) ∧ sQuiet W (W.drewN q2) := ⟨c11, x6, x6b, z0, z1, q2, rfl⟩
            go_region_held3 (fun w' => w'.cell? ⟨w.heap.size, 11, none⟩ = some (.slice (some ⟨b1, o1, none⟩) en.length c5) ∧ w'.cell? ⟨b1, o1 + k * 7 + 6, none⟩ = some (.slice (some ⟨b2, o2, none⟩) eevs.length ec) ∧ w'.cell? ⟨b1, o1 + k * 7 + 2 + 4, none⟩ = some (.slice (some ⟨b2, o2, none⟩) eevs.length ec) ∧ w'.cell? ⟨b2, o2 + j * 2, none⟩ = some (.string (B e.1)) ∧ w'.cell? ⟨b2, o2 + j * 2 + 1, none⟩ = some (.string (B e.2)) ∧ sQuiet W w') (first | assumption | exact S5_drew (by assumption)) (fail)
            rename_i hHeld
            obtain ⟨q9, hq9⟩ := hHeld.2.2.2.2.2
            clear hHeld hS
            go_wp2
            go_roundw
            case rel => exact ⟨n2 + e.2.length + e.1.length, j + 1, q9, by first | go_num | (rw [hw1, hw2]; go_num) | (simp only [hw1, hw2]; go_num), by go_num, by omega, by first | rfl | exact hq9, by omega, by omega, by omega, Lib.hid (HJX.out _ (by omega) (by omega))⟩
            case measure => simp [intOf]; omega
          · have h30i : ¬ (j : Int) < 30 := by omega
            go_wp2
            go_roundw
            case rel => exact ⟨n2, k + 1, q2, rfl, by go_num, by omega, rfl, by omega, Lib.hid (HNX.out n2 (by omega) ⟨by dsimp only; omega, fun i h h30 => HJ.out i h (by have h2 : i < eevs.length := h; omega)⟩)⟩
            case measure => simp [intOf]; omega
        · have hj1 : ¬ (j : Int) < (eevs.length : Int) := by omega
          go_wp2
          go_roundw
          case rel => exact ⟨n2, k + 1, q2, rfl, by go_num, by omega, rfl, by omega, Lib.hid (HNX.out n2 (by omega) ⟨by dsimp only; omega, fun i h h30 => HJ.out i h (by have h2 : i < eevs.length := h; omega)⟩)⟩
          case measure => simp [intOf]; omega
    · have hk1 : ¬ (k : Int) < (en.length : Int) := by omega
      go_wp2
      go_loopw [3, 6] (fun z i wr => ∃ (n2 j q : Nat), z = .int .i64 n2 ∧ i = .int .i64 j ∧ j ≤ ev.length ∧ wr = W.drewN q ∧ n ≤ n2 ∧ n2 ≤ 171699735788503040 + j * 281474976702464 ∧ Hid (∀ i (h : i < ev.length), i < j → ev[i].1.length ≤ n2)) (fun _ i _ => ev.length - (intOf i).toNat)
      case atStart => exact ⟨n, 0, q, rfl, rfl, Nat.zero_le _, rfl, Nat.le_refl _, by omega, Lib.hid fun i _ h => by omega⟩
      case round =>
        obtain ⟨n2, j, q2, rfl, rfl, hj, rfl, hn2, hn3, HJ⟩ := hrel
        have hn2B : n2 ≤ 190000000000000000 := by have := Nat.mul_le_mul_right 281474976702464 hj; omega
        clear c11
        have c12 : (W.drewN q2).cell? ⟨w.heap.size, 12, none⟩ = some (.slice a6 ev.length c6) := C12.out
        by_cases hjl : j < ev.length
        · have hj1 : (j : Int) < (ev.length : Int) := by omega
          obtain ⟨b2, o2, rfl, g0, g1⟩ := HX6.out j hjl
          have z0 : (W.drewN q2).cell? ⟨b2, o2 + j * 2, none⟩ = some (.string (B ev[j].1)) := below_keeps HB.out _ _ g0
          have z1 : (W.drewN q2).cell? ⟨b2, o2 + j * 2 + 1, none⟩ = some (.string (B ev[j].2)) := below_keeps HB.out _ _ g1
          clear g0 g1
          have hej := HZ.out.ev ev[j] (List.getElem_mem hjl)
          have HJX : Hid (∀ n3, n2 ≤ n3 → ev[j].1.length ≤ n3 → ∀ i (h : i < ev.length), i < j + 1 → ev[i].1.length ≤ n3) := Lib.hid fun n3 h1 h2 i h h3 => by
            by_cases hij : i = j
            · subst hij; exact h2
            · have := HJ.out i h (by omega); omega
          have he1 := hej.1
          have he2 := hej.2
          clear hej
          generalize ev[j] = e at z0 z1 he1 he2 HJX
          have hw1 : IntKind.i64.wrap ((n2 : Int) + (e.1.length : Int)) = (n2 : Int) + (e.1.length : Int) := IntWalk.i64_in _ ⟨by omega, by omega⟩
          have hw2 : IntKind.i64.wrap ((n2 : Int) + (e.1.length : Int) + (e.2.length : Int)) = (n2 : Int) + (e.1.length : Int) + (e.2.length : Int) := IntWalk.i64_in _ ⟨by omega, by omega⟩
          go_wp2
          have hS : (W.drewN q2).cell? ⟨w.heap.size, 12, none⟩ = some (.slice (some ⟨b2, o2, none⟩) ev.length c6) ∧ (W.drewN q2).cell? ⟨b2, o2 + j * 2, none⟩ = some (.string (B e.1)) ∧ (W.drewN q2).cell? ⟨b2, o2 + j * 2 + 1, none⟩ = some (.string (B e.2)) ∧ sQuiet W (W.drewN q2) := ⟨c12, z0, z1, q2, rfl⟩
          go_region_held3 (fun w' => w'.cell? ⟨w.heap.size, 12, none⟩ = some (.slice (some ⟨b2, o2, none⟩) ev.length c6) ∧ w'.cell? ⟨b2, o2 + j * 2, none⟩ = some (.string (B e.1)) ∧ w'.cell? ⟨b2, o2 + j * 2 + 1, none⟩ = some (.string (B e.2)) ∧ sQuiet W w') (first | assumption | exact S3_drew (by assumption)) (fail)
          rename_i hHeld
          obtain ⟨q9, hq9⟩ := hHeld.2.2.2
          clear hHeld hS
          go_wp2
          go_roundw
          case rel => exact ⟨n2 + e.1.length + e.2.length, j + 1, q9, by first | go_num | (rw [hw1, hw2]; go_num) | (simp only [hw1, hw2]; go_num), by go_num, by omega, by first | rfl | exact hq9, by omega, by omega, Lib.hid (HJX.out _ (by omega) (by omega))⟩
          case measure => simp [intOf]; omega
        · have hj1 : ¬ (j : Int) < (ev.length : Int) := by omega
          go_wp2
          go_loopw [3, 7] (fun z i wr => ∃ (n3 j q : Nat), z = .int .i64 n3 ∧ i = .int .i64 j ∧ j ≤ evs.length ∧ wr = W.drewN q ∧ n2 ≤ n3 ∧ n3 ≤ 190000000000000000 + j * 281474976702464 ∧ Hid (∀ i (h : i < evs.length), i < j → evs[i].1.length ≤ n3)) (fun _ i _ => evs.length - (intOf i).toNat)
          case atStart => exact ⟨n2, 0, q2, rfl, rfl, Nat.zero_le _, rfl, Nat.le_refl _, by omega, Lib.hid fun i _ h => by omega⟩
          case round =>
            obtain ⟨n3, j3, q3, rfl, rfl, hj3, rfl, hn4, hn5, HJ3⟩ := hrel
            have hn3B : n3 ≤ 200000000000000000 := by have := Nat.mul_le_mul_right 281474976702464 hj3; omega
            clear c12
            have c17 : (W.drewN q3).cell? ⟨w.heap.size, 17, none⟩ = some (.slice a7 evs.length c7) := C17.out
            by_cases hjl3 : j3 < evs.length
            · have hj4 : (j3 : Int) < (evs.length : Int) := by omega
              obtain ⟨b2, o2, rfl, g0, g1⟩ := HX7.out j3 hjl3
              have z0 : (W.drewN q3).cell? ⟨b2, o2 + j3 * 2, none⟩ = some (.string (B evs[j3].1)) := below_keeps HB.out _ _ g0
              have z1 : (W.drewN q3).cell? ⟨b2, o2 + j3 * 2 + 1, none⟩ = some (.string (B evs[j3].2)) := below_keeps HB.out _ _ g1
              clear g0 g1
              have hej := HZ.out.bt.2 evs[j3] (List.getElem_mem hjl3)
              have HJX : Hid (∀ n4, n3 ≤ n4 → evs[j3].1.length ≤ n4 → ∀ i (h : i < evs.length), i < j3 + 1 → evs[i].1.length ≤ n4) := Lib.hid fun n4 h1 h2 i h h3 => by
                by_cases hij : i = j3
                · subst hij; exact h2
                · have := HJ3.out i h (by omega); omega
              have he1 := hej.1
              have he2 := hej.2
              clear hej
              generalize evs[j3] = e at z0 z1 he1 he2 HJX
              have hw1 : IntKind.i64.wrap ((n3 : Int) + (e.1.length : Int)) = (n3 : Int) + (e.1.length : Int) := IntWalk.i64_in _ ⟨by omega, by omega⟩
              have hw2 : IntKind.i64.wrap ((n3 : Int) + (e.1.length : Int) + (e.2.length : Int)) = (n3 : Int) + (e.1.length : Int) + (e.2.length : Int) := IntWalk.i64_in _ ⟨by omega, by omega⟩
              go_wp2
              have hS : (W.drewN q3).cell? ⟨w.heap.size, 17, none⟩ = some (.slice (some ⟨b2, o2, none⟩) evs.length c7) ∧ (W.drewN q3).cell? ⟨b2, o2 + j3 * 2, none⟩ = some (.string (B e.1)) ∧ (W.drewN q3).cell? ⟨b2, o2 + j3 * 2 + 1, none⟩ = some (.string (B e.2)) ∧ sQuiet W (W.drewN q3) := ⟨c17, z0, z1, q3, rfl⟩
              go_region_held3 (fun w' => w'.cell? ⟨w.heap.size, 17, none⟩ = some (.slice (some ⟨b2, o2, none⟩) evs.length c7) ∧ w'.cell? ⟨b2, o2 + j3 * 2, none⟩ = some (.string (B e.1)) ∧ w'.cell? ⟨b2, o2 + j3 * 2 + 1, none⟩ = some (.string (B e.2)) ∧ sQuiet W w') (first | assumption | exact S3_drew (by assumption)) (fail)
              rename_i hHeld
              obtain ⟨q9, hq9⟩ := hHeld.2.2.2
              clear hHeld hS
              go_wp2
              go_roundw
              case rel => exact ⟨n3 + e.1.length + e.2.length, j3 + 1, q9, by first | go_num | (rw [hw1, hw2]; go_num) | (simp only [hw1, hw2]; go_num), by go_num, by omega, by first | rfl | exact hq9, by omega, by omega, Lib.hid (HJX.out _ (by omega) (by omega))⟩
              case measure => simp [intOf]; omega
            · have hj4 : ¬ (j3 : Int) < (evs.length : Int) := by omega
              by_cases h20 : n3 < 20000
              · have h20i : (n3 : Int) < 20000 := by omega
                have HT : Hid (TinyP en ev ⟨st, ex, se, sq, evs⟩ str) := Lib.hid
                  ⟨fun q hq => by
                      obtain ⟨i, hi, rfl⟩ := List.mem_iff_getElem.1 hq
                      exact (HN.out i hi (by omega)).tiny (by omega),
                    fun e he => by
                      obtain ⟨i, hi, rfl⟩ := List.mem_iff_getElem.1 he
                      have := HJ.out i hi (by omega)
                      omega,
                    ⟨by (try dsimp only); omega, fun _ e he => by
                      obtain ⟨i, hi, rfl⟩ := List.mem_iff_getElem.1 he
                      have := HJ3.out i hi (by (try dsimp only at hi); omega)
                      (try dsimp only at this ⊢)
                      omega⟩,
                    by (try dsimp only); omega⟩
                go_wp2
                go_ret
                exact ⟨.inr ⟨rfl, HT.out⟩, below_quiet HB.out ⟨q3, rfl⟩⟩
              · have h20d : decide ((n3 : Int) < 20000) = false := decide_eq_false (by omega)
                clear h20
                go_wp2
                go_ret
                exact ⟨.inl rfl, below_quiet HB.out ⟨q3, rfl⟩⟩
end Go.Proofs.YtljcgpdjhjkciaaGreat
