/-
  Own texts, joined: SegAppend
-/
import Derived.Test.YtmfhipjceeijmaaGreatDoorBun34
import Derived.Laws.AppendOwnNone
import Derived.Deep.RegionHeld3

/-
  append of entries that came in onto a row of the call's own; such a row while a disk works.
-/
namespace Go.Proofs.YtmfhipjceeijmaaGreatDoor.G
open Go.RowKit
open D (dP)

theorem run_entries {w : World} (base : Nat) (v : Value) (n : Nat) (xs : List Value) (hown : w.ownsRow base 53 7 v n xs) (aa : Option Addr) (m c : Nat) (es : List EV) (hr : ReadsR w (.slice aa m c) es) (hl : es.length = m) (h63 : n + m ≤ 1000) (hbase : base ≤ w.heap.size)
    {o : Oper} {a : Act} {K : Act → World → Prop} {Q : Exit → Act → World → Prop} (s x : Operand)
    (ho : o.op = .call { callee := .builtin .append, args := #[s, x], argTypes := #[33, 33] }) (hs : a.eval s = v) (hx : a.eval x = .slice aa m c)
    (h : ∀ v' w', w'.ownsRow base 53 7 v' (n + m) (xs ++ enCells es) → w.grownBy w' v.ownBlock → K (a.put o.dst v') w') : Oper.wp Tryz.prog o a w K Q := by
  obtain ⟨i0, hi, hz0, hz1, hz2⟩ := info_parts Tryz.infoEn
  have hforms := reads_forms hr
  obtain ⟨a0, cap, hv, hcap, hnil, hc⟩ := hr
  rw [hl] at hv
  cases hv
  cases aa with
  | none =>
    have hz : m = 0 := by
      rcases Nat.eq_zero_or_pos m with h0 | h0
      · exact h0
      · obtain ⟨_, _, b, off, hh, _⟩ := hc 0 (by omega)
        cases hh
    have hes : es = [] := List.eq_nil_of_length_eq_zero (by omega)
    subst hes hz
    rw [hnil rfl] at hx
    have hrun := run_append_owned_none (P := Tryz.prog) (w := w) base 33 o.type 53 i0 7 Tryz.underlying33 hi v n xs hown
    unfold Oper.wp
    simp [execOp, ho, resolve, invoke, builtin, hs, hx, hrun, Result.andThen]
    exact h v w (by simpa [enCells] using hown) ⟨rfl, rfl, rfl, Nat.le_refl _, fun _ _ _ => rfl⟩
  | some ad =>
    refine wp_append_own w s x 33 ho base 53 i0 _ 7 80 Tryz.underlying33 hi hz0 hz1 hz2 rfl (by decide) v n xs hs hown ad m c (enCells es) hx (by rw [enCells_len, hl]) ?_ (enCells_one hforms) (by unfold maxLen; omega) (by omega) hbase fun v' w' h2 h3 _ => h v' w' h2 h3
    rcases Nat.eq_zero_or_pos m with h0 | h0
    · have hes : es = [] := List.eq_nil_of_length_eq_zero (by omega)
      subst hes
      intro j u hj
      simp [enCells] at hj
    · obtain ⟨_, _, b, off, hh, _⟩ := hc 0 (by omega)
      cases hh
      exact reads_cells hl ⟨_, c, by rw [hl], hcap, hnil, hc⟩
theorem wpList_entries {w : World} {ops : Array Oper} {rest : List Oper} {o : Oper} {a : Act} {Q : Exit → Act → World → Prop} (hgd : o.guard = none) (base : Nat) (v : Value) (n : Nat) (xs : List Value) (hown : w.ownsRow base 53 7 v n xs) (aa : Option Addr) (m c : Nat) (es : List EV) (hr : ReadsR w (.slice aa m c) es) (hl : es.length = m) (h63 : n + m ≤ 1000) (hbase : base ≤ w.heap.size) (s x : Operand)
    (ho : o.op = .call { callee := .builtin .append, args := #[s, x], argTypes := #[33, 33] }) (hs : a.eval s = v) (hx : a.eval x = .slice aa m c)
    (h : ∀ v' w', w'.ownsRow base 53 7 v' (n + m) (xs ++ enCells es) → w.grownBy w' v.ownBlock → wpList Tryz.prog ops Q rest (a.put o.dst v') w') : wpList Tryz.prog ops Q (o :: rest) a w :=
  wpList_plain hgd fun _ hK => run_entries base v n xs hown aa m c es hr hl h63 hbase s x ho hs hx fun v' w' h1 h2 => hK _ _ (h v' w' h1 h2)
theorem own_but2 {S : Nat → Prop} {w w' : World} {base e s n : Nat} {v : Value} {xs : List Value} (h : w.ownsRow base e s v n xs) (hb : D.But S w w') (hs : ∀ k, v.ownBlock = some k → ¬ S k) : w'.ownsRow base e s v n xs := by
  obtain ⟨h1, h2⟩ := h
  refine ⟨h1, ?_⟩
  rcases h2 with h2 | ⟨g, cap, cur, rfl, hbs, hg, hr⟩
  · exact .inl h2
  · exact .inr ⟨g, cap, cur, rfl, hbs, but_at hb hg (hs g rfl), hr⟩
theorem own_but {S : Nat → Prop} {w w' : World} {base e s n : Nat} {v : Value} {xs : List Value} (h : w.ownsRow base e s v n xs) (hb : D.But S w w') (hs : ∀ k, base ≤ k → ¬ S k) : w'.ownsRow base e s v n xs := by
  obtain ⟨h1, h2⟩ := h
  refine ⟨h1, ?_⟩
  rcases h2 with h2 | ⟨g, cap, cur, hv, hbs, hg, hr⟩
  · exact .inl h2
  · exact .inr ⟨g, cap, cur, hv, hbs, but_at hb hg (hs g hbs), hr⟩
/-- A row of the call's own that holds entries of two lists that came in. -/
theorem reads_joined {w0 w : World} {base : Nat} {v va vb : Value} {es fs : List EV} (ha : ReadsR w0 va es) (hb : ReadsR w0 vb fs) (hbel : Below w0.heap.size w0 w) (hown : w.ownsRow base 53 7 v (0 + es.length + fs.length) ([] ++ enCells es ++ enCells fs)) : ReadsR w v (es ++ fs) := by
  refine readsR_own (base := base) ?_ fun p hp => ?_
  · rw [List.nil_append, ← enCells_append, show 0 + es.length + fs.length = (es ++ fs).length by rw [List.length_append]; omega] at hown
    exact hown
  · rcases List.mem_append.1 hp with h | h
    · obtain ⟨_, _, _, _, _, hx⟩ := readsR_below ha hbel
      obtain ⟨j, hj, rfl⟩ := List.mem_iff_getElem.1 h
      exact ⟨(hx j hj).1, (hx j hj).2.1⟩
    · obtain ⟨_, _, _, _, _, hx⟩ := readsR_below hb hbel
      obtain ⟨j, hj, rfl⟩ := List.mem_iff_getElem.1 h
      exact ⟨(hx j hj).1, (hx j hj).2.1⟩
end Go.Proofs.YtmfhipjceeijmaaGreatDoor.G
