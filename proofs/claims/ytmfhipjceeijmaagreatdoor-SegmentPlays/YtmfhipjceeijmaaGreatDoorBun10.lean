/-
  Own texts, joined: ReadsCap
-/
import Derived.Test.YtmfhipjceeijmaaGreatDoorBun9
import Derived.Laws.AppendOwn
import Derived.Laws.AppendOwnNone

/-
  Slices that came in, with their capacity; an append of such a slice to a row of the call's own.
-/
namespace Go.Proofs.YtmfhipjceeijmaaGreatDoor
open Go.RowKit

/-- A slice value that reads as a list of cells, with its capacity. -/
def ReadsC (w : World) (v : Value) (xs : List Value) : Prop :=
  ∃ a cap, v = .slice a xs.length cap ∧ xs.length ≤ cap ∧ (a = none → cap = 0) ∧ ∀ i, i < xs.length → ∃ b off, a = some ⟨b, off, none⟩ ∧ w.cell? ⟨b, off + i, none⟩ = xs[i]?
theorem ReadsC.reads {w : World} {v : Value} {xs : List Value} (h : ReadsC w v xs) : Reads w v xs := by
  obtain ⟨a, cap, h1, _, _, h2⟩ := h
  exact ⟨a, cap, h1, h2⟩
theorem readsC_strings {w : World} {a : Addr} {len cap : Nat} {ss : List ByteArray} (hl : len ≤ ss.length) (hc : len ≤ cap) (h : ∀ i, i < ss.length → w.cell? (a.add i) = some (.string (ss.getD i ByteArray.empty))) :
    ReadsC w (.slice (some a) len cap) (strCells ((ss.take len).map L)) := by
  obtain ⟨a', cap', h1, h2⟩ := reads_strings hl (cap := cap) h
  have hlen : (strCells ((ss.take len).map L)).length = len := by rw [strCells_len, List.length_map, List.length_take]; omega
  injection h1 with e1 e2 e3
  subst e1 e3
  exact ⟨some a, cap, by rw [hlen], by omega, (fun h => by cases h), h2⟩
theorem readsC_below {w w' : World} {v : Value} {xs : List Value} (h : ReadsC w v xs) (hb : Below w.heap.size w w') : ReadsC w' v xs := by
  obtain ⟨a, cap, rfl, h1, h2, hx⟩ := h
  refine ⟨a, cap, rfl, h1, h2, fun i hi => ?_⟩
  obtain ⟨b, off, rfl, he⟩ := hx i hi
  refine ⟨b, off, rfl, ?_⟩
  rw [List.getElem?_eq_getElem hi] at he ⊢
  rw [hb.cell (World.block_lt_of_cell? w _ he)]
  exact he
theorem wpList_append_reads {P : Program} {w : World} {ops : Array Oper} {rest : List Oper} {o : Oper} {a : Act} {Q : Exit → Act → World → Prop} (hgd : o.guard = none) (s x : Operand) (t : TypeId)
    (ho : o.op = .call { callee := .builtin .append, args := #[s, x], argTypes := #[t, t] })
    (base : Nat) (e : TypeId) (i : TypeInfo) (z : Value) (bytes : Nat) (ht : P.underlying t = some (.slice e)) (hi : P.info? e = some i) (hz : i.zero = some z)
    (hsize : i.size = 1) (hby : i.bytes = bytes) (hzs : z.cells.size = 1)
    (v : Value) (n : Nat) (xs : List Value) (hs : a.eval s = v) (hown : w.ownsRow base e 1 v n xs)
    (vx : Value) (news : List Value) (hx : a.eval x = vx) (hr : ReadsC w vx news) (h1 : ∀ u ∈ news, u.oneCell' = true)
    (h63 : n + news.length ≤ maxLen) (hbytes : (n + news.length) * bytes ≤ 140737488355328) (hbase : base ≤ w.heap.size)
    (h : ∀ v' w', w'.ownsRow base e 1 v' (n + news.length) (xs ++ news) → w.grownBy w' v.ownBlock → wpList P ops Q rest (a.put o.dst v') w') : wpList P ops Q (o :: rest) a w := by
  obtain ⟨a0, cap, hv, _, hnil, hc⟩ := hr
  cases a0 with
  | none =>
    have h0 : news.length = 0 := by
      rcases Nat.eq_zero_or_pos news.length with h0 | h0
      · exact h0
      · obtain ⟨b, off, hh, _⟩ := hc 0 h0
        cases hh
    have hn : news = [] := List.length_eq_zero_iff.1 h0
    subst hn
    rw [hnil rfl] at hv
    refine wpList_append_own_none hgd s x t ho base e i 1 ht hi v n xs hs hown (by rw [hx, hv]; rfl) ?_
    refine h v w (by simpa using hown) ⟨rfl, rfl, rfl, Nat.le_refl _, fun _ _ _ => rfl⟩
  | some ad =>
    refine wpList_append_own w hgd s x t ho base e i z 1 bytes ht hi hz hsize hby hzs (by decide) v n xs hs hown ad news.length cap news (by rw [hx, hv]) (by omega) ?_ h1 h63 hbytes hbase fun v' w' h2 h3 _ => h v' w' h2 h3
    intro j u hj
    have hlt : j < news.length := (List.getElem?_eq_some_iff.1 hj).1
    obtain ⟨b, off, hh, hcell⟩ := hc j hlt
    obtain rfl : ad = ⟨b, off, none⟩ := Option.some.inj hh
    rw [Go.WideShapes.add_plain, hcell, hj]
theorem strCells_one (l : List (List UInt8)) : ∀ u ∈ strCells l, u.oneCell' = true := by
  intro u hu
  simp only [strCells, List.mem_map] at hu
  obtain ⟨x, _, rfl⟩ := hu
  rfl
theorem strCells_append (a b : List (List UInt8)) : strCells (a ++ b) = strCells a ++ strCells b := by simp [strCells]
theorem below_made {w w' : World} {o : Obj} {n c : Nat} (h : (w.alloc o).grownBy w' (Value.ownBlock (.slice (some ⟨w.heap.size, 0, none⟩) n c))) : Below w.heap.size w w' :=
  ((Below.refl _ w).alloc (Nat.le_refl _) o).grown h (by simp) (fun k hk => by simp [Value.ownBlock] at hk; omega)
end Go.Proofs.YtmfhipjceeijmaaGreatDoor
