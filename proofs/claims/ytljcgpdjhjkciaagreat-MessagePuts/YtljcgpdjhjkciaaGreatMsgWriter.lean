/-
  The writer of package message: its two cells, and the methods that put one part each.
-/
import Derived.Test.YtljcgpdjhjkciaaGreatRecordPut
import Derived.Test.YtljcgpdjhjkciaaGreatMessageSpec
import Derived.Lib.AppendStr
import Derived.Deep.RegionLaw
import Derived.Deep.RegionHeld3
import Derived.Handy
namespace Go.Proofs.YtljcgpdjhjkciaaGreat
open Go.RowKit
attribute [local go_sem] ext_Bd ext_Bl ext_Bt toList_B add_B size_B get_Bt

/-- What is put so far, if all of it is right. -/
abbrev St := Option (List UInt8)
def put1 (ok : Bool) (s : List UInt8) (o : St) : St := o.bind fun bs => if ok = true then some (bs ++ s) else none
theorem put1_put1 (a b : Bool) (s t : List UInt8) (o : St) : put1 b t (put1 a s o) = put1 (a && b) (s ++ t) o := by
  cases o <;> cases a <;> cases b <;> simp [put1]
theorem put1_none (a : Bool) (s : List UInt8) : put1 a s none = none := rfl

/-- The writer in block p, whose bytes lie in a row of its own. -/
structure WrC (p : Nat) (v : Value) (bs : List UInt8) (wr : Bool) (w : World) : Prop where
  blk : w.heap[p]? = some (.cells #[v, .bool wr] 94 (0, 0))
  own : w.ownsRow (p + 1) 5 1 v bs.length (Lib.byteCells bs)
def WrAt (p : Nat) (o : St) (N : Nat) (w : World) : Prop := ∃ v bs wr, WrC p v bs wr w ∧ bs.length ≤ N ∧ o = if wr = true then none else some bs
/-- What the writer's methods leave of all else: all blocks but the writer's own, and rows of bytes behind it. -/
structure Wrote (p : Nat) (w w' : World) : Prop where
  os : w'.os = w.os
  tape : w'.tape = w.tape
  output : w'.output = w.output
  size : w.heap.size ≤ w'.heap.size
  low : ∀ k, k < p → w'.heap[k]? = w.heap[k]?
  high : ∀ k o, k ≠ p → w.heap[k]? = some o → (∀ cs f, o ≠ .cells cs 5 f) → w'.heap[k]? = some o
theorem Wrote.trans {p : Nat} {a b c : World} (h : Wrote p a b) (g : Wrote p b c) : Wrote p a c where
  os := g.os.trans h.os
  tape := g.tape.trans h.tape
  output := g.output.trans h.output
  size := Nat.le_trans h.size g.size
  low k hk := (g.low k hk).trans (h.low k hk)
  high k o hp ho hn := g.high k o hp (h.high k o hp ho hn) hn
theorem Wrote.refl (p : Nat) (w : World) : Wrote p w w := ⟨rfl, rfl, rfl, Nat.le_refl _, fun _ _ => rfl, fun _ _ _ h _ => h⟩
theorem Wrote.of_below {p : Nat} {w w' : World} (hp : p < w.heap.size) (h : Below w.heap.size w w') : Wrote p w w' :=
  ⟨h.os, h.tape, h.output, h.size, fun k hk => h.block k (by omega), fun k o _ ho _ => (h.block k (Array.getElem?_eq_some_iff.1 ho).1).trans ho⟩
theorem Wrote.of_grown {p n : Nat} {v : Value} {xs : List Value} {w w' : World} (ho : w.ownsRow (p + 1) 5 1 v n xs) (h : w.grownBy w' v.ownBlock) (hp : p < w.heap.size) : Wrote p w w' := by
  refine ⟨h.os, h.tape, h.output, h.size, fun k hk => h.block k (by omega) fun e => ?_, fun k o hk hg hn => ?_⟩
  · have := (ho.lt k e.symm).1; omega
  · rw [h.block k (Array.getElem?_eq_some_iff.1 hg).1 fun e => ?_, hg]
    rcases ho.2 with ⟨rfl, _⟩ | ⟨g, cap, cur, rfl, _, hb, _⟩
    · cases e
    · cases e
      rw [hb] at hg
      cases hg
      exact hn _ _ rfl
theorem Wrote.of_set {p : Nat} {w : World} (j : Nat) (u : Value) : Wrote p w (w.setCell ⟨p, j, none⟩ u) := by
  have hb : ∀ k, k ≠ p → (w.setCell ⟨p, j, none⟩ u).heap[k]? = w.heap[k]? := fun k hk => Below.heap_setCell _ _ _ _ (fun e => hk (by simp [e]))
  exact ⟨rfl, rfl, rfl, by simp [World.setCell], fun k hk => hb k (by omega), fun k o hk ho _ => (hb k hk).trans ho⟩
theorem WrC.lt {p : Nat} {v : Value} {bs : List UInt8} {wr : Bool} {w : World} (h : WrC p v bs wr w) : p < w.heap.size := (Array.getElem?_eq_some_iff.1 h.blk).1
theorem WrC.call {p : Nat} {v : Value} {bs : List UInt8} {wr : Bool} {w w' : World} (h : WrC p v bs wr w) (hb : Below w.heap.size w w') : WrC p v bs wr w' := ⟨(hb.block p h.lt).trans h.blk, own_below h.own hb⟩

theorem WrC.after {p : Nat} {v v' : Value} {bs s : List UInt8} {wr : Bool} {W w1 : World} (h : WrC p v bs wr W) (ho : w1.ownsRow (p + 1) 5 1 v' (bs.length + s.length) (Lib.byteCells bs ++ Lib.byteCells s)) (hg : W.grownBy w1 v.ownBlock) :
    WrC p v' (bs ++ s) wr (w1.setCell ⟨p, 0, none⟩ v') ∧ Wrote p W (w1.setCell ⟨p, 0, none⟩ v') := by
  have hb : w1.heap[p]? = some (.cells #[v, .bool wr] 94 (0, 0)) := (hg.block p h.lt (own_ne h.own (by omega))).trans h.blk
  refine ⟨⟨set_block hb 0 v', ?_⟩, (Wrote.of_grown h.own hg h.lt).trans (Wrote.of_set 0 v')⟩
  have := ho.kept (Lib.grownBy_setCell w1 p 0 v') (.inr (own_ne ho (by omega)).symm)
  rw [List.length_append, Lib.byteCells_append]
  exact this
theorem WrC.cell {p : Nat} {v : Value} {bs : List UInt8} {wr : Bool} {W w1 : World} (h : WrC p v bs wr W) (hg : W.grownBy w1 v.ownBlock) : w1.cell? ⟨p, 0, none⟩ = some v ∧ w1.frozen? ⟨p, 0, none⟩ = false := by
  have hb : w1.heap[p]? = some (.cells #[v, .bool wr] 94 (0, 0)) := (hg.block p h.lt (own_ne h.own (by omega))).trans h.blk
  exact ⟨by have := block_cell hb 0; simpa using this, block_loose hb 0⟩
theorem WrC.bad {p : Nat} {v : Value} {bs : List UInt8} {wr : Bool} {w : World} (h : WrC p v bs wr w) : WrC p v bs true (w.setCell ⟨p, 1, none⟩ (.bool true)) :=
  ⟨set_block h.blk 1 _, h.own.kept (Lib.grownBy_setCell w p 1 _) (.inr (own_ne h.own (by omega)).symm)⟩
theorem put1_ok {ok : Bool} {s bs : List UInt8} {wr : Bool} {o : St} (ho : o = if wr = true then none else some bs) (h : ok = true) : put1 ok s o = if wr = true then none else some (bs ++ s) := by
  subst ho; subst h
  cases wr <;> simp [put1]
theorem put1_bad {ok : Bool} {s x : List UInt8} {wr : Bool} {o : St} {bs : List UInt8} (ho : o = if wr = true then none else some bs) (h : ok = false) : put1 ok s o = if true = true then none else some x := by
  subst ho; subst h
  cases wr <;> simp [put1]

/-- append(own, s...) as a step of a region that draws its order. -/
theorem step_append_text {P : Program} {w : World} {ops : Array Oper} {o : Oper} {a : Act} {K : Act → World → Prop} {Q : Exit → Act → World → Prop} {E : Prop} (hgd : o.guard = none) (sl x : Operand) (t u : TypeId)
    (ho : o.op = .call { callee := .builtin .append, args := #[sl, x], argTypes := #[t, u] })
    (base : Nat) (e : TypeId) (i : TypeInfo) (ht : P.underlying t = some (.slice e)) (hu : P.underlying u = some .string) (hi : P.info? e = some i) (hz : i.zero = some (.int .u8 0)) (hsize : i.size = 1) (hby : i.bytes = 1)
    (v : Value) (n : Nat) (xs : List Value) (hs : a.eval sl = v) (hown : w.ownsRow base e 1 v n xs) (s : List UInt8) (hx : a.eval x = .string (B s))
    (h63 : n + s.length ≤ maxLen) (hbytes : n + s.length ≤ 140737488355328) (hbase : base ≤ w.heap.size)
    (h : ∀ v' w', w'.ownsRow base e 1 v' (n + s.length) (xs ++ Lib.byteCells s) → w.grownBy w' v.ownBlock → K (a.put o.dst v') w') :
    if Region.wanted o (yielded ops a.tmps) = true then Oper.wp P o a w K Q else E := by
  have hw : Region.wanted o (yielded ops a.tmps) = true := by simp [Region.wanted, hgd]
  rw [if_pos hw]
  obtain ⟨v', w', hr, h2, h3, -⟩ := Lib.run_append_own_string (P := P) w base t u o.type e i ht hu hi hz hsize hby v n xs hown (B s) (by rw [size_B]; exact h63) (by rw [size_B]; exact hbytes) hbase
  rw [size_B, str_B] at h2
  unfold Oper.wp execOp
  simp only [ho, resolve, invoke, builtin, Sem.run_bind, Sem.run_pure, Result.andThen_ok, List.map_toArray, List.map_cons, List.map_nil, hs, hx, hr]
  exact h v' w' h2 h3
/-- The writer, and what was left of all else since world W. -/
structure WS (p : Nat) (v : Value) (bs : List UInt8) (wr : Bool) (W w : World) : Prop where
  c : WrC p v bs wr w
  wr : Wrote p W w
theorem WS.drew {p : Nat} {v : Value} {bs : List UInt8} {wr : Bool} {W w : World} (h : WS p v bs wr W w) : WS p v bs wr W w.drew := ⟨⟨h.c.blk, h.c.own⟩, ⟨h.wr.os, h.wr.tape, h.wr.output, h.wr.size, h.wr.low, h.wr.high⟩⟩
theorem WS.call {p : Nat} {v : Value} {bs : List UInt8} {wr : Bool} {W w w' : World} (h : WS p v bs wr W w) (hb : Below w.heap.size w w') : WS p v bs wr W w' := ⟨h.c.call hb, h.wr.trans (Wrote.of_below h.c.lt hb)⟩
theorem WS.after {p : Nat} {v v' : Value} {bs s : List UInt8} {wr : Bool} {W w w1 : World} (h : WS p v bs wr W w) (ho : w1.ownsRow (p + 1) 5 1 v' (bs.length + s.length) (Lib.byteCells bs ++ Lib.byteCells s)) (hg : w.grownBy w1 v.ownBlock) :
    WS p v' (bs ++ s) wr W (w1.setCell ⟨p, 0, none⟩ v') ∧ w1.cell? ⟨p, 0, none⟩ = some v ∧ w1.frozen? ⟨p, 0, none⟩ = false := ⟨⟨(h.c.after ho hg).1, h.wr.trans (h.c.after ho hg).2⟩, h.c.cell hg⟩
theorem WS.c0 {p : Nat} {v : Value} {bs : List UInt8} {wr : Bool} {W w : World} (h : WS p v bs wr W w) : w.cell? ⟨p, 0, none⟩ = some v := by have := block_cell h.c.blk 0; simpa using this
theorem WS.done {p N n : Nat} {v : Value} {bs s : List UInt8} {wr ok : Bool} {o : St} {W w : World} (h : WS p v (bs ++ s) wr W w) (hl : bs.length ≤ N) (hs : s.length ≤ n) (ho : put1 ok s o = if wr = true then none else some (bs ++ s)) : WrAt p (put1 ok s o) (N + n) w ∧ Wrote p W w :=
  ⟨⟨_, _, _, h.c, by rw [List.length_append]; omega, ho⟩, h.wr⟩

set_option maxHeartbeats 1000000 in
set_option maxRecDepth 100000 in
theorem wr_whole {p N : Nat} {o : St} {w : World} (s : List UInt8) (h : WrAt p o N w) (hl : N + s.length ≤ 100000000) :
    Calls Tryz.prog 39 #[rdP p, .string (B s)] w fun x w' => x = .returned (.tuple #[]) ∧ WrAt p (put1 (decide (s ≠ [])) s o) (N + s.length) w' ∧ Wrote p w w' := by
  obtain ⟨i0, hi, hz0, hz1, hz2⟩ := info_parts Tryz.infoByte
  obtain ⟨v, bs, wr, hc, hbl, ho⟩ := h
  have c0 := block_cell hc.blk 0
  have c1 := block_cell hc.blk 1
  simp at c0 c1
  have l0 := block_loose hc.blk 0
  have l1 := block_loose hc.blk 1
  have HO := Lib.hid ho
  by_cases hs : s = []
  · have HS := Lib.hid hs
    have hsz : s.isEmpty = true := by rw [hs]; rfl
    obtain ⟨va, vc, hvv, hvc⟩ := own_slice hc.own
    subst hvv
    have h2 := hc.bad
    have hown := h2.own
    have hlt := hc.lt
    have HC := Lib.hid h2
    have e0 := block_cell h2.blk 0
    simp at e0
    have HE := Lib.hid (put1_bad (ok := decide (s ≠ [])) (s := s) (x := bs ++ s) ho (by simp [hs]))
    clear ho hc h2 hs
    go_enter Tryz.func39, Tryz.ntmps39
    go_wp2_with (at_builtin; refine Lib.wpList_append_own_string _ rfl _ _ 92 9 rfl (p + 1) 5 i0 Tryz.underlying92 Tryz.underlying9 hi hz0 hz1 hz2 _ _ _ rfl hown (B s) rfl (by rw [size_B]; unfold maxLen; omega) (by rw [size_B]; omega) (by simp [World.setCell]; omega) ?_; intro v' w1 hown' hgrow _; obtain ⟨va', vc', hvv', -⟩ := own_slice hown'; subst hvv'; have hcc := HC.out.cell hgrow; obtain ⟨d0, m0⟩ := hcc; rw [str_B, size_B] at hown')
    obtain ⟨hf, hw⟩ := HC.out.after hown' hgrow
    go_wp2
    go_returns
    exact ⟨rfl, ⟨_, _, _, hf, by rw [List.length_append]; omega, by simpa using HE.out⟩, (Wrote.of_set 1 _).trans hw⟩
  · have hsz : s.isEmpty = false := by cases s <;> simp at hs ⊢
    obtain ⟨va, vc, hvv, hvc⟩ := own_slice hc.own
    subst hvv
    have hown := hc.own
    have hlt := hc.lt
    have HC := Lib.hid hc
    have HE := Lib.hid (put1_ok (ok := decide (s ≠ [])) (s := s) ho (by simp [hs]))
    clear ho hc hs
    go_enter Tryz.func39, Tryz.ntmps39
    go_wp2_with (at_builtin; refine Lib.wpList_append_own_string _ rfl _ _ 92 9 rfl (p + 1) 5 i0 Tryz.underlying92 Tryz.underlying9 hi hz0 hz1 hz2 _ _ _ rfl hown (B s) rfl (by rw [size_B]; unfold maxLen; omega) (by rw [size_B]; omega) (by omega) ?_; intro v' w1 hown' hgrow _; obtain ⟨va', vc', hvv', -⟩ := own_slice hown'; subst hvv'; have hcc := HC.out.cell hgrow; obtain ⟨d0, m0⟩ := hcc; rw [str_B, size_B] at hown')
    obtain ⟨hf, hw⟩ := HC.out.after hown' hgrow
    go_wp2
    go_returns
    exact ⟨rfl, ⟨_, _, _, hf, by rw [List.length_append]; omega, by simpa using HE.out⟩, hw⟩
set_option maxHeartbeats 1000000 in
set_option maxRecDepth 100000 in
theorem wr_number {p N0 : Nat} {o : St} {w : World} (n : Int) (h : WrAt p o N0 w) (hl : N0 + 10 ≤ 100000000) :
    Calls Tryz.prog 34 #[rdP p, .int .i64 n] w fun x w' => x = .returned (.tuple #[]) ∧ WrAt p (put1 (M.numR n) (M.putI n) o) (N0 + 10) w' ∧ Wrote p w w' := by
  obtain ⟨i0, hi, hz0, hz1, hz2⟩ := info_parts Tryz.infoByte
  obtain ⟨v, bs, wr, hc, hbl, ho⟩ := h
  have c0 := block_cell hc.blk 0
  have c1 := block_cell hc.blk 1
  simp at c0 c1
  have l0 := block_loose hc.blk 0
  have l1 := block_loose hc.blk 1
  obtain ⟨t, HT⟩ : ∃ t, Hid (M.putI n = t) := ⟨_, Lib.hid rfl⟩
  have htl : t.length ≤ 6 := by have := N.putL_len6 (N.held_le n); rw [← HT.out]; exact this
  rw [HT.out]
  have HT2 : Hid (N.putL (N.held n) = t) := Lib.hid HT.out
  clear HT
  by_cases hn : n < 0
  · have hq : M.numR n = false := by unfold M.numR; simp; omega
    obtain ⟨va, vc, hvv, hvc⟩ := own_slice hc.own
    subst hvv
    have h2 : WS p (.slice va bs.length vc) bs true w (w.setCell ⟨p, 1, none⟩ (.bool true)) := ⟨hc.bad, Wrote.of_set 1 _⟩
    have hlt := h2.c.lt
    have HC := Lib.hid h2
    have e0 := h2.c0
    have HE := Lib.hid (put1_bad (s := t) (x := bs ++ t) ho hq)
    clear ho hc h2
    go_enter Tryz.func34, Tryz.ntmps34
    go_wp2
    go_region_law (first
      | (refine step_append_text (by rfl) _ _ 92 9 (by rfl) (p + 1) 5 i0 Tryz.underlying92 Tryz.underlying9 hi hz0 hz1 hz2 (.slice va bs.length vc) bs.length (Lib.byteCells bs) (by rfl) (by first | exact hc4.c.own | exact hc4.drew.c.own) t (by rfl) (by unfold maxLen; omega) (by omega) (by first | omega | (simp; omega)) ?_; intro v' w5 hown' hgrow; obtain ⟨va', vc', hvv', -⟩ := own_slice hown'; subst hvv'; have hc5 := WS.after (by first | exact hc4 | exact hc4.drew | exact hc4.drew.drew) hown' hgrow; obtain ⟨hc5, d0, m0⟩ := hc5)
      | (go_simp; go_at_call 62; with_reducible refine (Put_any_at n t _ HT2).mono ?_; rintro x w4 ⟨rfl, hb4⟩; have hc4 := WS.call (by first | exact HC.out | exact HC.out.drew | exact HC.out.drew.drew) hb4; have e4 := hc4.c0; have hlt4 := hc4.c.lt))
    all_goals
      go_wp2
      go_returns
      exact ⟨rfl, hc5.done hbl (by omega) (by simpa using HE.out)⟩
  by_cases hm : 274877906944 < n
  · have hq : M.numR n = false := by unfold M.numR M.large; simp; omega
    obtain ⟨va, vc, hvv, hvc⟩ := own_slice hc.own
    subst hvv
    have h2 : WS p (.slice va bs.length vc) bs true w (w.setCell ⟨p, 1, none⟩ (.bool true)) := ⟨hc.bad, Wrote.of_set 1 _⟩
    have hlt := h2.c.lt
    have HC := Lib.hid h2
    have e0 := h2.c0
    have HE := Lib.hid (put1_bad (s := t) (x := bs ++ t) ho hq)
    clear ho hc h2
    go_enter Tryz.func34, Tryz.ntmps34
    go_wp2
    go_region_law (first
      | (refine step_append_text (by rfl) _ _ 92 9 (by rfl) (p + 1) 5 i0 Tryz.underlying92 Tryz.underlying9 hi hz0 hz1 hz2 (.slice va bs.length vc) bs.length (Lib.byteCells bs) (by rfl) (by first | exact hc4.c.own | exact hc4.drew.c.own) t (by rfl) (by unfold maxLen; omega) (by omega) (by first | omega | (simp; omega)) ?_; intro v' w5 hown' hgrow; obtain ⟨va', vc', hvv', -⟩ := own_slice hown'; subst hvv'; have hc5 := WS.after (by first | exact hc4 | exact hc4.drew | exact hc4.drew.drew) hown' hgrow; obtain ⟨hc5, d0, m0⟩ := hc5)
      | (go_simp; go_at_call 62; with_reducible refine (Put_any_at n t _ HT2).mono ?_; rintro x w4 ⟨rfl, hb4⟩; have hc4 := WS.call (by first | exact HC.out | exact HC.out.drew | exact HC.out.drew.drew) hb4; have e4 := hc4.c0; have hlt4 := hc4.c.lt))
    all_goals
      go_wp2
      go_returns
      exact ⟨rfl, hc5.done hbl (by omega) (by simpa using HE.out)⟩
  · have hq : M.numR n = true := by unfold M.numR M.large; simp; omega
    obtain ⟨va, vc, hvv, hvc⟩ := own_slice hc.own
    subst hvv
    have h2 : WS p (.slice va bs.length vc) bs wr w w := ⟨hc, Wrote.refl _ _⟩
    have hlt := h2.c.lt
    have HC := Lib.hid h2
    have e0 := h2.c0
    have HE := Lib.hid (put1_ok (s := t) ho hq)
    clear ho hc h2
    go_enter Tryz.func34, Tryz.ntmps34
    go_wp2
    go_region_law (first
      | (refine step_append_text (by rfl) _ _ 92 9 (by rfl) (p + 1) 5 i0 Tryz.underlying92 Tryz.underlying9 hi hz0 hz1 hz2 (.slice va bs.length vc) bs.length (Lib.byteCells bs) (by rfl) (by first | exact hc4.c.own | exact hc4.drew.c.own) t (by rfl) (by unfold maxLen; omega) (by omega) (by first | omega | (simp; omega)) ?_; intro v' w5 hown' hgrow; obtain ⟨va', vc', hvv', -⟩ := own_slice hown'; subst hvv'; have hc5 := WS.after (by first | exact hc4 | exact hc4.drew | exact hc4.drew.drew) hown' hgrow; obtain ⟨hc5, d0, m0⟩ := hc5)
      | (go_simp; go_at_call 62; with_reducible refine (Put_any_at n t _ HT2).mono ?_; rintro x w4 ⟨rfl, hb4⟩; have hc4 := WS.call (by first | exact HC.out | exact HC.out.drew | exact HC.out.drew.drew) hb4; have e4 := hc4.c0; have hlt4 := hc4.c.lt))
    all_goals
      go_wp2
      go_returns
      exact ⟨rfl, hc5.done hbl (by omega) (by simpa using HE.out)⟩
end Go.Proofs.YtljcgpdjhjkciaaGreat
