/-
  The landed disk's Clone.
-/
import Derived.Test.YtmfhipjceeijmaaDiskI
namespace Go.Proofs.Ytmfhipjceeijmaa.D
open Go.RowKit Go.Maps
attribute [local go_sem] ext_Bd ext_Bl ext_Bt toList_B add_B size_B get_Bt

theorem find_filter {n : Tx} {q : F → Bool} : ∀ {l : List F}, Sorted l → find n (l.filter q) = match find n l with | some f => if q f = true then some f else none | none => none
  | [], _ => rfl
  | g :: l, hs => by
    obtain ⟨h1, h2⟩ := List.pairwise_cons.1 hs
    have ih := find_filter (n := n) (q := q) h2
    by_cases e : g.name = n
    · have hn : find n l = none := e ▸ find_behind h1
      rw [hn] at ih
      rw [find, if_pos e]
      by_cases hq : q g = true
      · rw [List.filter_cons, if_pos hq, find, if_pos e]
        simp [hq]
      · rw [List.filter_cons, if_neg hq, ih]
        simp [hq]
    · rw [find, if_neg e]
      by_cases hq : q g = true
      · rw [List.filter_cons, if_pos hq, find, if_neg e, ih]
      · rw [List.filter_cons, if_neg hq, ih]
theorem sorted_filter {q : F → Bool} {l : List F} (h : Sorted l) : Sorted (l.filter q) := List.Pairwise.sublist List.filter_sublist h
/-- Those that are no longer to come. -/
def doneL (left : Lit → Bool) (l : List F) : List F := l.filter fun f => !left (.string f.name)
theorem done_none {left : Lit → Bool} {l : List F} (h : ∀ f ∈ l, left (.string f.name) = true) : doneL left l = [] := by
  unfold doneL
  rw [List.filter_eq_nil_iff]
  intro f hf
  simp [h f hf]
theorem done_all {left : Lit → Bool} {l : List F} (h : ∀ kl, left kl = false) : doneL left l = l := by
  unfold doneL
  rw [List.filter_eq_self]
  intro f _
  simp [h]
theorem done_step {left : Lit → Bool} {l : List F} {f : F} (hs : Sorted l) (hf : find f.name l = some f) (hk : left (.string f.name) = true) : put f (doneL left l) = doneL (fun z => left z && !z.sameKey (.string f.name)) l ∧ find f.name (doneL left l) = none := by
  have h0 : find f.name (doneL left l) = none := by
    unfold doneL
    rw [find_filter hs, hf]
    simp [hk]
  refine ⟨D.ext (sorted_put (sorted_filter hs)) (sorted_filter hs) fun n => ?_, h0⟩
  by_cases e : f.name = n
  · subst e
    rw [find_put]
    unfold doneL
    rw [find_filter hs, hf]
    simp [hk, key_eq]
  · rw [find_put_ne e]
    unfold doneL
    rw [find_filter hs, find_filter hs]
    cases hn : find n l with
    | none => rfl
    | some g =>
      obtain ⟨_, rfl⟩ := find_some hn
      simp [key_ne (fun h => e h.symm)]
theorem done_len {left : Lit → Bool} (l : List F) : (doneL left l).length ≤ l.length := List.length_filter_le _ _
/-- A map of files, without a disk. -/
structure DM (bs : Nat) (w : World) (m : Nat) (l : List F) (loc : Tx → Value) : Prop where
  lom : bs ≤ m
  map : w.ownsMap Try.prog 9 Rv m l.length (mapD (eD loc) l)
  row : ∀ f ∈ l, w.ownsRow bs 5 1 (loc f.name) f.data.length (Lib.byteCells f.data)
  apart : ∀ f ∈ l, ∀ g ∈ l, f.name ≠ g.name → ∀ k, (loc f.name).ownBlock = some k → (loc g.name).ownBlock ≠ some k
section
variable {bs : Nat} {w : World} {p m room : Nat} {l : List F} {loc : Tx → Value}
theorem DM.ext (h : DM bs w m l loc) {w' : World} (hk : ∀ k, bs ≤ k → k < w.heap.size → w'.heap[k]? = w.heap[k]?) : DM bs w' m l loc := by
  refine ⟨h.lom, ?_, fun f hf => row_ext (h.row f hf) fun k e => hk k (own_blk (h.row f hf) e).1 (own_lt (h.row f hf) e), h.apart⟩
  have hlt := h.map.lt
  obtain ⟨es, clock, hb, r⟩ := h.map
  exact ⟨es, clock, by rw [hk m h.lom hlt]; exact hb, r⟩
theorem DM.below (h : DM bs w m l loc) {w' : World} (hb : Below w.heap.size w w') : DM bs w' m l loc := h.ext fun k _ hk => hb.block k hk
theorem DM.grown (h : DM bs w m l loc) {w' : World} {r : Nat} (hg : w.grownBy w' (some r)) (hm : r ≠ m) (hr : ∀ f ∈ l, (loc f.name).ownBlock ≠ some r) : DM bs w' m l loc := by
  refine ⟨h.lom, ?_, fun f hf => row_ext (h.row f hf) fun k e => hg.block k (own_lt (h.row f hf) e) fun e2 => hr f hf (by rw [e, e2]), h.apart⟩
  exact h.map.kept hg fun e => hm (Option.some.inj e).symm
theorem DM.store (h : DM bs w m l loc) (hs : Sorted l) (hl : l.length ≤ 1000) (f : F) (hn : f.name.length ≤ 9223372036854775807) (a : Option Addr) (c : Nat) (hr : w.ownsRow bs 5 1 (.slice a f.data.length c) f.data.length (Lib.byteCells f.data))
    (hap : ∀ g ∈ l, ∀ k, (Value.slice a f.data.length c).ownBlock = some k → (loc g.name).ownBlock ≠ some k) :
    ∃ w', (Instr.mapUpdate 57 (.map (some m)) (.string (B f.name)) (.agg #[.slice a f.data.length c, .int .i64 (f.syn : Int)])).run Try.prog w = .ok () w' ∧ DM bs w' m (put f l) (upd loc f.name (.slice a f.data.length c)) ∧ w.grownBy w' (some m) := by
  obtain ⟨w', hrun, hown, hturn⟩ := h.map.store (string_keyed Try.underlying9) Try.underlying57 (by unfold maxLen; omega) (key_B f.name hn) (rv_mk a f.data.length c (f.syn : Int))
  rw [put_upd loc _ hs] at hown
  have hne : ∀ k : Nat, (∃ c, w.heap[k]? = some (.cells c 5 (0, 0))) → w'.heap[k]? = w.heap[k]? := fun k ⟨c, hk⟩ => by
    refine hturn.grown.block k (Array.getElem?_eq_some_iff.1 hk).1 fun e => ?_
    cases e
    obtain ⟨es, clock, hb, _⟩ := h.map
    rw [hb] at hk
    cases hk
  refine ⟨w', hrun, ⟨h.lom, owns_tight hown, fun g hg => ?_, fun f1 h1 g1 h2 hfg k hk => ?_⟩, hturn.grown⟩
  · rcases put_mem hs hg with rfl | ⟨hg, e⟩
    · rw [upd_same]
      exact row_ext hr fun k hk => hne k (own_blk hr hk).2
    · rw [upd_ne e]
      exact row_ext (h.row g hg) fun k hk => hne k (own_blk (h.row g hg) hk).2
  · rcases put_mem hs h1 with e3 | ⟨h3, e1⟩
    · subst e3
      rcases put_mem hs h2 with rfl | ⟨h2, e2⟩
      · exact absurd rfl hfg
      · rw [upd_same] at hk
        rw [upd_ne e2]
        exact hap g1 h2 k hk
    · rw [upd_ne e1] at hk
      rcases put_mem hs h2 with e3 | ⟨h4, e2⟩
      · rw [e3, upd_same]
        exact fun e => hap f1 h3 k e hk
      · rw [upd_ne e2]
        exact h.apart f1 h3 g1 h4 hfg k hk
theorem DA.nam (h : DA bs w p m room l loc) {f : F} (hf : f ∈ l) : f.name.length ≤ 9223372036854775807 := by
  have := strKeys_le h.map Try.underlying9
  rw [keys_mapD] at this
  have h2 := this f.name (List.mem_map.2 ⟨f, hf, rfl⟩)
  unfold maxLen at h2
  exact h2
/-- A copy of the disk. -/
def CloneAt (w : World) (room : Nat) (l : List F) (x : Ending) (w' : World) : Prop :=
  ∃ q m2 loc2, x = .returned (dP q) ∧ DA w.heap.size w' q m2 room l loc2
theorem make_hint (n : Int) (w : World) : (Instr.makeMap 57 (some (.int .i64 n))).run Try.prog w = .ok (.map (some w.heap.size)) (w.alloc (.map #[] 0)) := by kernel_rfl
theorem wpList_upd {P : Program} {w : World} {ops : Array Oper} {rest : List Oper} {o : Oper} {a : Act} {Q : Exit → Act → World → Prop} (hgd : o.guard = none) (mm kk vv : Operand) (t : TypeId) (hop : o.op = Op.mapUpdate t mm kk vv)
    {b : Nat} {key val : Value} (hm : a.eval mm = .map (some b)) (hk : a.eval kk = key) (hv : a.eval vv = val) {R : World → Prop} (hrun : ∃ w', (Instr.mapUpdate t (.map (some b)) key val).run P w = .ok () w' ∧ R w') (h : ∀ w', R w' → wpList P ops Q rest (a.put o.dst undef) w') : wpList P ops Q (o :: rest) a w := by
  refine wpList_plain hgd fun K' hK' => ?_
  obtain ⟨w', hr, hR⟩ := hrun
  unfold Oper.wp
  simp [execOp, hop, hm, hk, hv, hr, Result.andThen]
  exact hK' _ _ (h w' hR)
theorem DM.off {r n : Nat} {D : DataW Value} {left : Lit → Bool} {cnt m2 : Nat} {k : List F} {loc2 : Tx → Value} {b2 : Nat} (h : DM b2 w m2 k loc2) (hrg : w.ranges Try.prog 9 Rv m r n D left cnt) : ∀ f ∈ k, (loc2 f.name).ownBlock ≠ some r := fun f hf e => by
  obtain ⟨_, c, hc⟩ := own_blk (h.row f hf) e
  obtain ⟨es, clock, since, seen, c0, _, _, _, _, hr, _⟩ := hrg
  rw [hr] at hc
  cases hc
end
end Go.Proofs.Ytmfhipjceeijmaa.D
