/-
  Walks of package record: rows of marks of the call's own, and inForce.
-/
import Derived.Test.YtljcgpdjhjkciaaGreatRecordArgs
import Derived.Test.YtljcgpdjhjkciaaGreatRecordMore
namespace Go.Proofs.YtljcgpdjhjkciaaGreat
open Go.RowKit
attribute [local go_sem] ext_Bd ext_Bl ext_Bt toList_B add_B size_B get_Bt

/-- The cells of marks that lie in a row. -/
def mkCells (ms : List R.Mk) : List Value := ms.flatMap fun m => [.int .i64 m.1, .int .i64 m.2]
theorem mkCells_len : ∀ (ms : List R.Mk), (mkCells ms).length = ms.length * 2
  | [] => rfl
  | m :: ms => by
    have h := mkCells_len ms
    unfold mkCells at h ⊢
    rw [List.flatMap_cons, List.length_append, h]
    simp only [List.length_cons, List.length_nil]
    omega
theorem mkCells_snoc (ms : List R.Mk) (m : R.Mk) : mkCells (ms ++ [m]) = mkCells ms ++ [.int .i64 m.1, .int .i64 m.2] := by simp [mkCells]
theorem mkCells_take : ∀ (ms : List R.Mk) (j : Nat), mkCells (ms.take j) = (mkCells ms).take (j * 2)
  | [], j => by simp [mkCells]
  | m :: ms, 0 => by simp [mkCells]
  | m :: ms, j + 1 => by
    have h := mkCells_take ms j
    have e1 : mkCells (m :: ms) = .int .i64 m.1 :: .int .i64 m.2 :: mkCells ms := by simp [mkCells]
    have e2 : mkCells (m :: ms.take j) = .int .i64 m.1 :: .int .i64 m.2 :: mkCells (ms.take j) := by simp [mkCells]
    rw [List.take_succ_cons, e1, e2, h, show (j + 1) * 2 = j * 2 + 1 + 1 by omega, List.take_succ_cons, List.take_succ_cons]
theorem mkCells_get : ∀ (ms : List R.Mk) (i : Nat) (h : i < ms.length), (mkCells ms)[i * 2]? = some (.int .i64 ms[i].1) ∧ (mkCells ms)[i * 2 + 1]? = some (.int .i64 ms[i].2)
  | m :: ms, 0, _ => ⟨rfl, rfl⟩
  | m :: ms, i + 1, h => by
    have ih := mkCells_get ms i (by simpa using h)
    have e1 : mkCells (m :: ms) = .int .i64 m.1 :: .int .i64 m.2 :: mkCells ms := by simp [mkCells]
    rw [e1, show (i + 1) * 2 = i * 2 + 1 + 1 by omega]
    exact ih
theorem Tryz.infoMk : (Tryz.prog.info? 87).map (fun i => (i.zero, i.size, i.bytes)) = some (some (.agg #[.int .i64 0, .int .i64 0]), 2, 16) := by kernel_rfl
theorem own_mark {w : World} {base : Nat} {v : Value} {ms : List R.Mk} (h : w.ownsRow base 87 2 v ms.length (mkCells ms)) (i : Nat) (hi : i < ms.length) :
    ∃ g cap, v = .slice (some ⟨g, 0, none⟩) ms.length cap ∧ ms.length ≤ cap ∧ w.cell? ⟨g, i * 2, none⟩ = some (.int .i64 ms[i].1) ∧ w.cell? ⟨g, i * 2 + 1, none⟩ = some (.int .i64 ms[i].2) := by
  have c := mkCells_get ms i hi
  rcases h.2 with ⟨_, h0⟩ | ⟨g, cap, cur, rfl, _, _, hc, _⟩
  · omega
  · refine ⟨g, cap, rfl, hc, ?_, ?_⟩
    · rw [h.cellAt (i * 2) (by omega)]; exact c.1
    · rw [h.cellAt (i * 2 + 1) (by omega)]; exact c.2
theorem readsM_own {w : World} {base : Nat} {v : Value} {ms : List R.Mk} (h : w.ownsRow base 87 2 v ms.length (mkCells ms)) : ReadsM w v ms := by
  rcases h.2 with ⟨rfl, h0⟩ | ⟨g, cap, cur, rfl, _, _, hc, _⟩
  · exact ⟨none, 0, by rw [h0], by omega, fun _ => rfl, fun i hi => by omega⟩
  · refine ⟨some ⟨g, 0, none⟩, cap, rfl, hc, fun h => (by cases h), fun i hi => ?_⟩
    obtain ⟨g2, c2, hv, _, c0, c1⟩ := own_mark h i hi
    cases hv
    exact ⟨g, 0, rfl, by rw [Nat.zero_add]; exact c0, by rw [Nat.zero_add]; exact c1⟩
/-- A row of which less is looked at. -/
theorem own_less {w : World} {base : Nat} {e : TypeId} {s g n m cap : Nat} {xs : List Value} (h : w.ownsRow base e s (.slice (some ⟨g, 0, none⟩) n cap) n xs) (hm : m ≤ n) : w.ownsRow base e s (.slice (some ⟨g, 0, none⟩) m cap) m (xs.take (m * s)) := by
  obtain ⟨h1, h2⟩ := h
  rcases h2 with ⟨h2, _⟩ | ⟨g2, cap2, cur, hv, hb, hg, hn, hc, hs, ht⟩
  · cases h2
  · cases hv
    have hms : m * s ≤ n * s := Nat.mul_le_mul_right _ hm
    refine ⟨by rw [List.length_take, h1]; omega, .inr ⟨g, cap, cur, rfl, hb, hg, by omega, hc, hs, ?_⟩⟩
    rw [← ht, List.take_take, Nat.min_eq_left hms]
theorem own_drewN {w : World} {base : Nat} {e : TypeId} {s : Nat} {v : Value} {n : Nat} {xs : List Value} (h : w.ownsRow base e s v n xs) (k : Nat) : (w.drewN k).ownsRow base e s v n xs := h
theorem own_slice {w : World} {base : Nat} {e : TypeId} {s : Nat} {v : Value} {n : Nat} {xs : List Value} (h : w.ownsRow base e s v n xs) : ∃ a cap, v = .slice a n cap ∧ n ≤ cap := by
  rcases h.2 with ⟨rfl, h0⟩ | ⟨g, cap, cur, rfl, _, _, hc, _⟩
  · exact ⟨none, 0, by rw [h0], by omega⟩
  · exact ⟨_, cap, rfl, hc⟩

theorem below_keeps2 {w0 w : World} {p : Addr} {u : Value} (hb : Below w0.heap.size w0 w) (h : w0.cell? p = some u) : w.cell? p = some u := below_keeps hb p u h
def sliceLen : Value → Nat
  | .slice _ n _ => n
  | _ => 0

structure ForceAt (w : World) (ms : List R.Mk) (k : Nat) (v : Value) (wr : World) (K : List R.Mk) : Prop where
  own : wr.ownsRow w.heap.size 87 2 v K.length (mkCells K)
  good : R.Good K (ms.take k)
  len : K.length ≤ k
  bel : Below w.heap.size w wr

theorem force_next {w W w1 : World} {ms K : List R.Mk} {k j : Nat} {m : R.Mk} {u v' : Value} {o : Obj} {q : Nat} (hb : Below w.heap.size w W) (how : W.ownsRow w.heap.size 87 2 u j (mkCells (K.take j))) (hj : j ≤ K.length) (hg : R.Good K (ms.take k)) (hdr : ∀ x ∈ K.drop j, m.2 ≤ x.2)
    (hlow : ∀ x ∈ K.take j, x.2 < m.2) (ht : ms.take (k + 1) = ms.take k ++ [m]) (hKl : K.length ≤ k) (hown : w1.ownsRow w.heap.size 87 2 v' (j + 1) (mkCells (K.take j) ++ [.int .i64 m.1, .int .i64 m.2])) (hgrow : ((W.drewN q).alloc o).grownBy w1 u.ownBlock) :
    ForceAt w ms (k + 1) v' w1 (K.take j ++ [m]) := by
  have el : (K.take j ++ [m]).length = j + 1 := by rw [List.length_append, List.length_take, Nat.min_eq_left hj]; rfl
  refine ⟨by rw [el, mkCells_snoc]; exact hown, by rw [ht]; exact R.good_step hg hdr hlow, by omega, ?_⟩
  have hb2 : Below w.heap.size w (W.drewN q) := below_drewN hb q
  exact (hb2.alloc hb2.size o).grown hgrow (by have := hb.size; simp; omega) (fun b hb => (how.lt b hb).1)

end Go.Proofs.YtljcgpdjhjkciaaGreat
