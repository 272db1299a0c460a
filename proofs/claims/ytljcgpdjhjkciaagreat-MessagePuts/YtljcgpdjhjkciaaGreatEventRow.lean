/-
  Lists of batches that came in, and rows of batches of the call's own.
-/
import Derived.Test.YtljcgpdjhjkciaaGreatEventReader4
namespace Go.Proofs.YtljcgpdjhjkciaaGreat
open Go.RowKit Go.ChangeShapes Go.WideShapes Go.Deep

/-- A batch, and the slice of its events. -/
abbrev BV : Type := E.Bat × Value
abbrev bvCells (p : BV) : List Value := [.string (B p.1.stream), .int .i64 p.1.expect, .int .i64 p.1.session, .int .i64 p.1.seq, p.2]
def ReadsB (w : World) (v : Value) (bs : List BV) : Prop :=
  ∃ a cap, v = .slice a bs.length cap ∧ ∀ i (h : i < bs.length), ReadsE w bs[i].2 bs[i].1.events ∧ ∃ b off, a = some ⟨b, off, none⟩ ∧ w.cell? ⟨b, off + i * 5, none⟩ = some (.string (B bs[i].1.stream)) ∧ w.cell? ⟨b, off + i * 5 + 1, none⟩ = some (.int .i64 bs[i].1.expect) ∧
    w.cell? ⟨b, off + i * 5 + 2, none⟩ = some (.int .i64 bs[i].1.session) ∧ w.cell? ⟨b, off + i * 5 + 3, none⟩ = some (.int .i64 bs[i].1.seq) ∧ w.cell? ⟨b, off + i * 5 + 4, none⟩ = some bs[i].2
section
variable {H : Type} {enc : TypeId × Value → H} {P : Program} {w : World} {base : Nat} {spare : Nat → Bool} {held : Bool}
theorem arg_batches {r : Reach} {b0 : Nat} {t tb te tl : TypeId} {g0 g1 : Field} {f0 f1 f2 f3 f4 : Field} {v : Value} {d : DataW H} {p : List MemPlace} (hts : P.underlying t = some (.slice tb)) (ht : P.underlying tb = some (.struct #[f0, f1, f2, f3, f4])) (hone : oneCellFields P #[f0, f1, f2, f3, f4] = true) (hC : P.cellsOf tb = 5)
    (h0 : P.underlying f0.type = some .string) (h1 : P.underlying f1.type = some (.int .i64)) (h2 : P.underlying f2.type = some (.int .i64)) (h3 : P.underlying f3.type = some (.int .i64)) (h4 : f4.type = tl)
    (hl : P.underlying tl = some (.slice te)) (hte : P.underlying te = some (.struct #[g0, g1])) (hone2 : oneCellFields P #[g0, g1] = true) (hC2 : P.cellsOf te = 2) (hg0 : P.underlying g0.type = some .string) (hg1 : P.underlying g1.type = some .string)
    (hv : Value.okWide P w r b0 t v) (h : DataW.Trod enc P w base spare held t v d p) : ∃ bs, ReadsB w v bs := by
  obtain ⟨a0, len, cap, rfl⟩ := okWide_slice hts hv
  obtain ⟨fuel, hf⟩ := h
  have hf2 : DataW.trod enc P w base spare held fuel t [.slice a0 len cap] = some (d, p) := hf
  rcases open_slice hts hf2 with ⟨hcs, _⟩ | ⟨a, len1, cap1, m, n, D, Pl, hcs, hb, hle, hm, hmm, _, hi⟩
  · cases hcs
    exact ⟨[], none, 0, rfl, fun i hi => by simp at hi⟩
  · cases hcs
    have hlm : len ≤ m := by rw [hmm]; split <;> omega
    have key : ∀ i, i < len → ∃ q : BV, ReadsE w q.2 q.1.events ∧ w.cell? (a.add (i * 5)) = some (.string (B q.1.stream)) ∧ w.cell? (a.add (i * 5 + 1)) = some (.int .i64 q.1.expect) ∧
        w.cell? (a.add (i * 5 + 2)) = some (.int .i64 q.1.session) ∧ w.cell? (a.add (i * 5 + 3)) = some (.int .i64 q.1.seq) ∧ w.cell? (a.add (i * 5 + 4)) = some q.2 := by
      intro i hil
      obtain ⟨cs, hc, hr⟩ := hi i (by omega)
      rw [hC] at hc
      obtain ⟨b, u, rfl, hre, _⟩ := open_batch ht hone hC h0 h1 h2 h3 h4 hl hte hone2 hC2 hg0 hg1 hr
      obtain ⟨_, _, hat⟩ := World.cells?_some hc
      have c0 := hat 0 (by omega)
      have c1 := hat 1 (by omega)
      have c2 := hat 2 (by omega)
      have c3 := hat 3 (by omega)
      have c4 := hat 4 (by omega)
      rw [Go.Deep.add_add] at c0 c1 c2 c3 c4
      exact ⟨(b, u), hre, c0, c1, c2, c3, c4⟩
    obtain ⟨f, hf⟩ : ∃ f : Nat → BV, ∀ i, i < len → ReadsE w (f i).2 (f i).1.events ∧ w.cell? (a.add (i * 5)) = some (.string (B (f i).1.stream)) ∧ w.cell? (a.add (i * 5 + 1)) = some (.int .i64 (f i).1.expect) ∧
        w.cell? (a.add (i * 5 + 2)) = some (.int .i64 (f i).1.session) ∧ w.cell? (a.add (i * 5 + 3)) = some (.int .i64 (f i).1.seq) ∧ w.cell? (a.add (i * 5 + 4)) = some (f i).2 := by
      refine ⟨fun i => if h : i < len then Classical.choose (key i h) else (⟨[], 0, 0, 0, []⟩, .slice none 0 0), fun i hil => ?_⟩
      have hs := Classical.choose_spec (key i hil)
      simp only [dif_pos hil]
      exact hs
    obtain ⟨b, off, spot⟩ := a
    refine ⟨(List.range len).map f, some ⟨b, off, spot⟩, cap, by simp, fun i hi => ?_⟩
    have hil : i < len := by simpa using hi
    have hspot : spot = none := by simpa [Addr.add] using World.cell?_spot (hf 0 (by omega)).2.1
    subst hspot
    obtain ⟨hre, c0, c1, c2, c3, c4⟩ := hf i hil
    rw [Go.WideShapes.add_plain] at c0 c1 c2 c3 c4
    refine ⟨by simpa using hre, b, off, rfl, ?_, ?_, ?_, ?_, ?_⟩
    · simpa using c0
    · simpa [Nat.add_assoc] using c1
    · simpa [Nat.add_assoc] using c2
    · simpa [Nat.add_assoc] using c3
    · simpa [Nat.add_assoc] using c4
end
/-- The cells of batches that lie in a row. -/
def batCells (bs : List BV) : List Value := bs.flatMap bvCells
theorem batCells_len : ∀ (bs : List BV), (batCells bs).length = bs.length * 5
  | [] => rfl
  | b :: bs => by
    have h := batCells_len bs
    unfold batCells at h ⊢
    rw [List.flatMap_cons, List.length_append, h]
    simp only [List.length_cons, List.length_nil]
    omega
theorem batCells_snoc (bs : List BV) (p : BV) : batCells (bs ++ [p]) = batCells bs ++ bvCells p := by simp [batCells]
theorem batCells_get : ∀ (bs : List BV) (i : Nat) (h : i < bs.length), (batCells bs)[i * 5]? = some (.string (B bs[i].1.stream)) ∧ (batCells bs)[i * 5 + 1]? = some (.int .i64 bs[i].1.expect) ∧ (batCells bs)[i * 5 + 2]? = some (.int .i64 bs[i].1.session) ∧
    (batCells bs)[i * 5 + 3]? = some (.int .i64 bs[i].1.seq) ∧ (batCells bs)[i * 5 + 4]? = some bs[i].2
  | b :: bs, 0, _ => ⟨rfl, rfl, rfl, rfl, rfl⟩
  | b :: bs, i + 1, h => by
    have ih := batCells_get bs i (by simpa using h)
    have e1 : batCells (b :: bs) = .string (B b.1.stream) :: .int .i64 b.1.expect :: .int .i64 b.1.session :: .int .i64 b.1.seq :: b.2 :: batCells bs := by simp [batCells]
    rw [e1, show (i + 1) * 5 = i * 5 + 1 + 1 + 1 + 1 + 1 by omega]
    exact ih
theorem Tryz.infoBat : (Tryz.prog.info? 28).map (fun i => (i.zero, i.size, i.bytes)) = some (some (.agg #[.string ⟨#[]⟩, .int .i64 0, .int .i64 0, .int .i64 0, .slice none 0 0]), 5, 64) := by kernel_rfl

/-- A batch in box g and one in block h from offset o on, as calls leave them. -/
abbrev RB (w0 : World) (g h o : Nat) (s1 : List UInt8) (x1 y1 z1 : Int) (v1 : Value) (s2 : List UInt8) (x2 y2 z2 : Int) (v2 : Value) (a : World) : Prop :=
  a.cell? ⟨g, 0, none⟩ = some (.string (B s1)) ∧ a.cell? ⟨g, 1, none⟩ = some (.int .i64 x1) ∧ a.cell? ⟨g, 2, none⟩ = some (.int .i64 y1) ∧ a.cell? ⟨g, 3, none⟩ = some (.int .i64 z1) ∧ a.cell? ⟨g, 4, none⟩ = some v1 ∧
    a.cell? ⟨h, o, none⟩ = some (.string (B s2)) ∧ a.cell? ⟨h, o + 1, none⟩ = some (.int .i64 x2) ∧ a.cell? ⟨h, o + 2, none⟩ = some (.int .i64 y2) ∧ a.cell? ⟨h, o + 3, none⟩ = some (.int .i64 z2) ∧ a.cell? ⟨h, o + 4, none⟩ = some v2 ∧ KeptB w0 a
section
variable {w0 : World} {g h o : Nat} {s1 s2 : List UInt8} {x1 y1 z1 x2 y2 z2 : Int} {v1 v2 : Value} {a b : World}
theorem RB_drew (hs : RB w0 g h o s1 x1 y1 z1 v1 s2 x2 y2 z2 v2 a) : RB w0 g h o s1 x1 y1 z1 v1 s2 x2 y2 z2 v2 a.drew := by
  obtain ⟨h0, h1, h2, h3, h4, h5, h6, h7, h8, h9, hk⟩ := hs
  exact ⟨h0, h1, h2, h3, h4, h5, h6, h7, h8, h9, keptB_drew hk⟩
theorem RB_call (hs : RB w0 g h o s1 x1 y1 z1 v1 s2 x2 y2 z2 v2 a) (hb : Below a.heap.size a b) : RB w0 g h o s1 x1 y1 z1 v1 s2 x2 y2 z2 v2 b := by
  obtain ⟨h0, h1, h2, h3, h4, h5, h6, h7, h8, h9, hk⟩ := hs
  have key : ∀ {p : Addr} {u : Value}, a.cell? p = some u → b.cell? p = some u := fun {p u} hp => by rw [hb.cell (World.block_lt_of_cell? a _ hp)]; exact hp
  exact ⟨key h0, key h1, key h2, key h3, key h4, key h5, key h6, key h7, key h8, key h9, keptB_call hk hb⟩
theorem RB_below (hs : RB w0 g h o s1 x1 y1 z1 v1 s2 x2 y2 z2 v2 a) : Below w0.heap.size w0 a := hs.2.2.2.2.2.2.2.2.2.2
end
theorem rows_len : ∀ (bs : List BV), (∀ p ∈ bs, E.fits p.1 = 0) → (bs.flatMap fun p => E.bytes p.1).length ≤ 20000 * bs.length
  | [], _ => by simp
  | b :: bs, h => by
    have h1 := E.bytes_len (h b (by simp))
    have h2 := rows_len bs fun p hp => h p (by simp [hp])
    rw [List.flatMap_cons, List.length_append, List.length_cons]
    omega
end Go.Proofs.YtljcgpdjhjkciaaGreat
