/-
  Parts of lists of entries that came in, and appends of them.
-/
import Derived.Test.YtfhopgficckjkaaRecordRowE
import Derived.Test.YtfhopgficckjkaaRecordFollows
namespace Go.Proofs.Ytfhopgficckjkaa
open Go.RowKit

theorem readsR_take {w : World} {a : Option Addr} {cap : Nat} {es : List EV} (h : ReadsR w (.slice a es.length cap) es) {k : Nat} (hk : k ≤ es.length) : ReadsR w (.slice a k cap) (es.take k) := by
  obtain ⟨a2, c2, hv, hc, hn, hx⟩ := h
  cases hv
  have hl : (es.take k).length = k := by rw [List.length_take]; omega
  refine ⟨a, cap, by rw [hl], by rw [hl]; omega, hn, fun i hi => ?_⟩
  rw [hl] at hi
  have e1 : (es.take k)[i] = es[i] := by simp
  rw [e1]
  exact hx i (by omega)
theorem readsR_drop {w : World} {b o : Nat} {cap : Nat} {es : List EV} (h : ReadsR w (.slice (some ⟨b, o, none⟩) es.length cap) es) {k n : Nat} (hn : es.length - k = n) (hk : k ≤ es.length) (a' : Option Addr) (ha : 0 < n → a' = some ⟨b, o + k * 7, none⟩) (hz : a' = none → cap - k = 0) : ReadsR w (.slice a' n (cap - k)) (es.drop k) := by
  obtain ⟨a2, c2, hv, hc, _, hx⟩ := h
  cases hv
  have hl : (es.drop k).length = n := by rw [List.length_drop]; omega
  refine ⟨a', cap - k, by rw [hl], by rw [hl]; omega, hz, fun i hi => ?_⟩
  rw [hl] at hi
  have e1 : (es.drop k)[i] = es[k + i] := by simp
  rw [e1]
  obtain ⟨hre, hp, b2, o2, e2, h7⟩ := hx (k + i) (by omega)
  cases e2
  refine ⟨hre, hp, b, o + k * 7, ha (by omega), ?_⟩
  rw [show o + k * 7 + i * 7 = o + (k + i) * 7 by omega]
  exact h7
/-- What the cells of a list that came in are, one behind the other. -/
theorem reads_cells {w : World} {b o cap : Nat} {es : List EV} {n : Nat} (hn : es.length = n) (h : ReadsR w (.slice (some ⟨b, o, none⟩) n cap) es) : ∀ j u, (enCells es)[j]? = some u → w.cell? ((⟨b, o, none⟩ : Addr).add j) = some u := by
  subst hn
  intro j u hj
  have hjl : j < es.length * 7 := by rw [← enCells_len]; exact (List.getElem?_eq_some_iff.1 hj).1
  obtain ⟨a2, c2, hv, _, _, hx⟩ := h
  cases hv
  have hi : j / 7 < es.length := by omega
  obtain ⟨_, _, b2, o2, e2, c0, c1, c2', c3, c4, c5, c6⟩ := hx (j / 7) hi
  cases e2
  obtain ⟨g0, g1, g2, g3, g4, g5, g6⟩ := enCells_get es (j / 7) hi
  rw [Go.WideShapes.add_plain]
  have hm : j % 7 < 7 := Nat.mod_lt _ (by omega)
  have hd : j = j / 7 * 7 + j % 7 := by omega
  generalize j / 7 = d at *
  generalize j % 7 = m at *
  subst hd
  match m, hm with
  | 0, _ => rw [Nat.add_zero, g0] at hj; rw [Nat.add_zero]; rw [← hj]; exact c0
  | 1, _ => rw [g1] at hj; rw [← hj, ← Nat.add_assoc]; exact c1
  | 2, _ => rw [g2] at hj; rw [← hj, ← Nat.add_assoc]; exact c2'
  | 3, _ => rw [g3] at hj; rw [← hj, ← Nat.add_assoc]; exact c3
  | 4, _ => rw [g4] at hj; rw [← hj, ← Nat.add_assoc]; exact c4
  | 5, _ => rw [g5] at hj; rw [← hj, ← Nat.add_assoc]; exact c5
  | 6, _ => rw [g6] at hj; rw [← hj, ← Nat.add_assoc]; exact c6
theorem enCells_one {es : List EV} (h : ∀ p ∈ es, ∃ a n c, p.2 = .slice a n c) : ∀ u ∈ enCells es, u.oneCell' = true := by
  intro u hu
  unfold enCells at hu
  rw [List.mem_flatMap] at hu
  obtain ⟨p, hp, hu⟩ := hu
  obtain ⟨a, n, c, he⟩ := h p hp
  simp only [evCells7, he, List.mem_cons, List.not_mem_nil, or_false] at hu
  rcases hu with rfl | rfl | rfl | rfl | rfl | rfl | rfl <;> rfl
theorem reads_forms {w : World} {v : Value} {es : List EV} (h : ReadsR w v es) : ∀ p ∈ es, ∃ a n c, p.2 = .slice a n c := by
  intro p hp
  obtain ⟨i, hi, rfl⟩ := List.mem_iff_getElem.1 hp
  obtain ⟨_, _, _, _, _, hx⟩ := h
  exact readsE_form (hx i hi).1
theorem Follows_at (es : List EV) (v : Value) (p q : Int) (r : Bool) (w : World) (hv : ReadsR w v es) (hl : es.length ≤ 1000) (hs : ∀ x ∈ es, E.Small x.1.b) (hp : i64B p) (H : Hid (R.follows (ensOf es) p q = r)) :
    Calls Try.prog 20 #[v, .int .i64 p, .int .i64 q] w fun x w' => x = .returned (.bool r) ∧ Below w.heap.size w w' := by
  rw [← H.out]; exact Follows_l es v p q w hv hl hs hp
end Go.Proofs.Ytfhopgficckjkaa
