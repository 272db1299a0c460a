/-
  Rows of entries of the call's own, and plain entries in them.
-/
import Derived.Test.YtljcgpdjhjkciaaGreatRecordPlain
namespace Go.Proofs.YtljcgpdjhjkciaaGreat
open Go.RowKit
attribute [local go_sem] ext_Bd ext_Bl ext_Bt toList_B add_B size_B get_Bt

abbrev evCells7 (p : EV) : List Value := [.int .i64 p.1.pos, .int .i64 p.1.epoch, .string (B p.1.b.stream), .int .i64 p.1.b.expect, .int .i64 p.1.b.session, .int .i64 p.1.b.seq, p.2]
/-- The cells of entries that lie in a row. -/
def enCells (es : List EV) : List Value := es.flatMap evCells7
theorem enCells_len : ∀ (es : List EV), (enCells es).length = es.length * 7
  | [] => rfl
  | p :: es => by
    have h := enCells_len es
    unfold enCells at h ⊢
    rw [List.flatMap_cons, List.length_append, h]
    simp only [List.length_cons, List.length_nil]
    omega
theorem enCells_snoc (es : List EV) (p : EV) : enCells (es ++ [p]) = enCells es ++ evCells7 p := by simp [enCells]
theorem enCells_append (es fs : List EV) : enCells (es ++ fs) = enCells es ++ enCells fs := by simp [enCells]
theorem enCells_get : ∀ (es : List EV) (i : Nat) (h : i < es.length), (enCells es)[i * 7]? = some (.int .i64 es[i].1.pos) ∧ (enCells es)[i * 7 + 1]? = some (.int .i64 es[i].1.epoch) ∧ (enCells es)[i * 7 + 2]? = some (.string (B es[i].1.b.stream)) ∧ (enCells es)[i * 7 + 3]? = some (.int .i64 es[i].1.b.expect) ∧
    (enCells es)[i * 7 + 4]? = some (.int .i64 es[i].1.b.session) ∧ (enCells es)[i * 7 + 5]? = some (.int .i64 es[i].1.b.seq) ∧ (enCells es)[i * 7 + 6]? = some es[i].2
  | p :: es, 0, _ => ⟨rfl, rfl, rfl, rfl, rfl, rfl, rfl⟩
  | p :: es, i + 1, h => by
    have ih := enCells_get es i (by simpa using h)
    have e1 : enCells (p :: es) = .int .i64 p.1.pos :: .int .i64 p.1.epoch :: .string (B p.1.b.stream) :: .int .i64 p.1.b.expect :: .int .i64 p.1.b.session :: .int .i64 p.1.b.seq :: p.2 :: enCells es := by simp [enCells]
    rw [e1, show (i + 1) * 7 = i * 7 + 1 + 1 + 1 + 1 + 1 + 1 + 1 by omega]
    exact ih
theorem Tryz.infoEn : (Tryz.prog.info? 53).map (fun i => (i.zero, i.size, i.bytes)) = some (some (.agg #[.int .i64 0, .int .i64 0, .string ⟨#[]⟩, .int .i64 0, .int .i64 0, .int .i64 0, .slice none 0 0]), 7, 80) := by kernel_rfl
theorem own_entry {w : World} {base : Nat} {v : Value} {es : List EV} (h : w.ownsRow base 53 7 v es.length (enCells es)) (i : Nat) (hi : i < es.length) :
    ∃ g cap, v = .slice (some ⟨g, 0, none⟩) es.length cap ∧ es.length ≤ cap ∧ At7 w g (i * 7) es[i].1 es[i].2 := by
  obtain ⟨c0, c1, c2, c3, c4, c5, c6⟩ := enCells_get es i hi
  rcases h.2 with ⟨_, h0⟩ | ⟨g, cap, cur, rfl, _, _, hc, _⟩
  · omega
  · have key : ∀ j, j < 7 → w.cell? ⟨g, i * 7 + j, none⟩ = (enCells es)[i * 7 + j]? := fun j hj => h.cellAt (i * 7 + j) (by omega)
    exact ⟨g, cap, rfl, hc, (key 0 (by omega)).trans c0, (key 1 (by omega)).trans c1, (key 2 (by omega)).trans c2, (key 3 (by omega)).trans c3, (key 4 (by omega)).trans c4, (key 5 (by omega)).trans c5, (key 6 (by omega)).trans c6⟩
theorem readsR_own {w : World} {base : Nat} {v : Value} {es : List EV} (h : w.ownsRow base 53 7 v es.length (enCells es)) (he : ∀ p ∈ es, ReadsE w p.2 p.1.b.events ∧ i64B p.1.pos) : ReadsR w v es := by
  rcases h.2 with ⟨rfl, h0⟩ | ⟨g, cap, cur, rfl, _, _, hc, _⟩
  · exact ⟨none, 0, by rw [h0], by omega, fun _ => rfl, fun i hi => by omega⟩
  · refine ⟨some ⟨g, 0, none⟩, cap, rfl, hc, fun h => (by cases h), fun i hi => ?_⟩
    obtain ⟨g2, c2, hv, _, h7⟩ := own_entry h i hi
    cases hv
    have := he _ (List.getElem_mem hi)
    exact ⟨this.1, this.2, g, 0, rfl, by rw [Nat.zero_add]; exact h7⟩

abbrev evObj : Obj := .cells #[.string ⟨#[107]⟩, .string ⟨#[]⟩] 55 (0, 0)
theorem reads_evObj {w : World} {g : Nat} (h : w.heap[g]? = some evObj) : ReadsE w (.slice (some ⟨g, 0, none⟩) 1 1) [([107], [])] := by
  refine ⟨_, 1, rfl, Nat.le_refl _, fun h => (by cases h), fun i hi => ?_⟩
  obtain rfl : i = 0 := by simpa using hi
  exact ⟨g, 0, rfl, by simp [World.cell?, h]; rfl, by simp [World.cell?, h]; rfl⟩

abbrev plainB : E.Bat := ⟨[115], 0, 1, 1, [([107], [])]⟩
/-- A row of plain entries, from base on. -/
structure PlRow (base : Nat) (l : List R.En) (v : Value) (wr : World) (es : List EV) : Prop where
  ens : ensOf es = l
  own : wr.ownsRow base 53 7 v es.length (enCells es)
  ev : ∀ p ∈ es, i64B p.1.pos ∧ p.1.b = plainB ∧ ∃ g, p.2 = .slice (some ⟨g, 0, none⟩) 1 1 ∧ wr.heap[g]? = some evObj
theorem PlRow.nil (base : Nat) (wr : World) : PlRow base [] (.slice none 0 0) wr [] := ⟨rfl, World.ownsRow_nil _ _ _ _, fun p hp => by simp at hp⟩
theorem PlRow.below {base : Nat} {l : List R.En} {v : Value} {wr w' : World} {es : List EV} (h : PlRow base l v wr es) (hb : Below wr.heap.size wr w') : PlRow base l v w' es := by
  refine ⟨h.ens, own_below5 h.own hb, fun p hp => ?_⟩
  obtain ⟨h1, h2, g, h3, h4⟩ := h.ev p hp
  exact ⟨h1, h2, g, h3, (hb.block g (lt_of_block h4)).trans h4⟩
theorem PlRow.reads {base : Nat} {l : List R.En} {v : Value} {wr : World} {es : List EV} (h : PlRow base l v wr es) : ReadsR wr v es := by
  refine readsR_own h.own fun p hp => ?_
  obtain ⟨h1, h2, g, h3, h4⟩ := h.ev p hp
  rw [h2, h3]
  exact ⟨reads_evObj h4, h1⟩
theorem PlRow.small {base : Nat} {l : List R.En} {v : Value} {wr : World} {es : List EV} (h : PlRow base l v wr es) : ∀ x ∈ es, E.Small x.1.b := fun x hx => by
  rw [(h.ev x hx).2.1]
  exact plain_small 0 0
theorem PlRow.len {base : Nat} {l : List R.En} {v : Value} {wr : World} {es : List EV} (h : PlRow base l v wr es) : es.length = l.length := by rw [← h.ens, ensOf_len]
/-- A plain entry more: it was made (w1), put into a slice of one (the new block), and appended (w2). -/
theorem PlRow.next {base : Nat} {l : List R.En} {v v' : Value} {wr w2 : World} {es : List EV} {pos ep : Int} {g : Nat} {o : Obj} (h : PlRow base l v wr es) (hg : wr.heap[g]? = some evObj) (hp : i64B pos)
    (hown : w2.ownsRow base 53 7 v' (es.length + 1) (enCells es ++ [.int .i64 pos, .int .i64 ep, .string (B [115]), .int .i64 0, .int .i64 1, .int .i64 1, .slice (some ⟨g, 0, none⟩) 1 1])) (hgr : (wr.alloc o).grownBy w2 v.ownBlock) :
    PlRow base (l ++ [plainE pos ep]) v' w2 (es ++ [(plainE pos ep, .slice (some ⟨g, 0, none⟩) 1 1)]) := by
  have key : ∀ g, wr.heap[g]? = some evObj → w2.heap[g]? = some evObj := fun g hh => by
    have hl := lt_of_block hh
    rw [hgr.block g (by simp; omega) (fun e => ?_), Below.heap_alloc _ _ _ hl]
    · exact hh
    · rcases h.own.2 with ⟨rfl, _⟩ | ⟨g2, cap, cur, rfl, _, hh2, _⟩
      · cases e
      · have e2 : g2 = g := by simpa [Value.ownBlock] using e.symm
        subst e2
        rw [hh2] at hh
        cases hh
  refine ⟨by simp [ensOf, ← h.ens], by rw [enCells_snoc, List.length_append]; exact hown, fun p hp2 => ?_⟩
  rcases List.mem_append.1 hp2 with hp2 | hp2
  · obtain ⟨h1, h2, g3, h3, h4⟩ := h.ev p hp2
    exact ⟨h1, h2, g3, h3, key g3 h4⟩
  · rw [List.mem_singleton] at hp2
    subst hp2
    exact ⟨hp, rfl, g, rfl, key g hg⟩
end Go.Proofs.YtljcgpdjhjkciaaGreat
