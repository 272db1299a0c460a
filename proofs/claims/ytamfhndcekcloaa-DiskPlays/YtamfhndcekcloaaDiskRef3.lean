/-
  Walks of the document's disk (package bucketlineref8): what writes it: New, Sync.
-/
import Derived.Test.YtamfhndcekcloaaDiskRef2
namespace Go.Proofs.Ytamfhndcekcloaa.D
open Go.RowKit
attribute [local go_sem] ext_Bd ext_Bl ext_Bt toList_B add_B size_B get_Bt
variable {bs : Nat}

theorem set_blk {w : World} {g : Nat} {cs : Array Value} {t : TypeId} (h : w.heap[g]? = some (.cells cs t (0, 0))) (j : Nat) (u : Value) : (w.setCell ⟨g, j, none⟩ u).heap[g]? = some (.cells (cs.setIfInBounds j u) t (0, 0)) := by
  obtain ⟨hlt, hk⟩ := Array.getElem?_eq_some_iff.1 h
  show (w.heap.modify g _)[g]? = _
  rw [Array.getElem?_eq_getElem (by rw [Array.size_modify]; exact hlt), Array.getElem_modify_self, hk]
  rfl
theorem set_oth {w : World} {p : Addr} {u : Value} {k : Nat} (h : k ≠ p.block) : (w.setCell p u).heap[k]? = w.heap[k]? := Below.heap_setCell w p u k h
/-- All that was there stays, but the disk's own block and rows of files. -/
structure Kp (bs p : Nat) (w w' : World) : Prop where
  os : w'.os = w.os
  tape : w'.tape = w.tape
  output : w'.output = w.output
  size : w.heap.size ≤ w'.heap.size
  block : ∀ (k : Nat) (o : Obj), w.heap[k]? = some o → k < bs ∨ (k ≠ p ∧ ∀ c fr, o ≠ .cells c 68 fr) → w'.heap[k]? = some o
theorem Kp.refl (p : Nat) (w : World) : Kp bs p w w := ⟨rfl, rfl, rfl, Nat.le_refl _, fun _ _ h _ => h⟩
theorem Kp.trans {p : Nat} {a b c : World} (h : Kp bs p a b) (k : Kp bs p b c) : Kp bs p a c :=
  ⟨k.os.trans h.os, k.tape.trans h.tape, k.output.trans h.output, Nat.le_trans h.size k.size, fun i o hi hp => k.block i o (h.block i o hi hp) hp⟩
theorem Kp.of_below {p : Nat} {w w' : World} (h : Below w.heap.size w w') : Kp bs p w w' := ⟨h.os, h.tape, h.output, h.size, fun k o hk _ => by rw [h.block k (blk_lt hk)]; exact hk⟩
theorem Kp.quiet {p : Nat} {w w' : World} (h : sQuiet w w') : Kp bs p w w' := by obtain ⟨n, rfl⟩ := h; exact ⟨rfl, rfl, rfl, Nat.le_refl _, fun _ _ h _ => h⟩
theorem Kp.drewN {p : Nat} {w w' : World} (h : Kp bs p w w') (n : Nat) : Kp bs p w (w'.drewN n) := ⟨h.os, h.tape, h.output, h.size, h.block⟩
theorem Kp.set_own {p : Nat} {w w' : World} (h : Kp bs p w w') (hlo : bs ≤ p) (j : Nat) (u : Value) : Kp bs p w (w'.setCell ⟨p, j, none⟩ u) :=
  ⟨h.os, h.tape, h.output, by simpa using h.size, fun k o hk hp => by
    have hkp : k ≠ p := hp.elim (fun h => by omega) (fun h => h.1)
    rw [set_oth hkp]; exact h.block k o hk hp⟩
theorem Kp.set_row {p g : Nat} {w w' : World} {cs : Array Value} (h : Kp bs p w w') (hg : w'.heap[g]? = some (.cells cs 68 (0, 0))) (hlo : bs ≤ g) (j : Nat) (u : Value) : Kp bs p w (w'.setCell ⟨g, j, none⟩ u) :=
  ⟨h.os, h.tape, h.output, by simpa using h.size, fun k o hk hp => by
    have h1 := h.block k o hk hp
    have hkg : k ≠ g := fun e => by
      subst e
      rcases hp with hp | hp
      · omega
      · rw [hg] at h1
        cases h1
        exact hp.2 _ _ rfl
    rw [set_oth hkg]; exact h1⟩
/-- A cell of a row is written. -/
theorem row_set {w : World} {base e s g n cap : Nat} {xs : List Value} (h : w.ownsRow base e s (.slice (some ⟨g, 0, none⟩) n cap) n xs) {i : Nat} (u : Value) : (w.setCell ⟨g, i, none⟩ u).ownsRow base e s (.slice (some ⟨g, 0, none⟩) n cap) n (xs.set i u) := by
  obtain ⟨h1, h2⟩ := h
  refine ⟨by rw [List.length_set]; exact h1, ?_⟩
  rcases h2 with ⟨h2, _⟩ | ⟨g2, cap2, cur, hv, hb, hg, hn, hc, hs, ht⟩
  · cases h2
  · cases hv
    refine .inr ⟨g, cap, cur.setIfInBounds i u, rfl, hb, set_blk hg i u, hn, hc, by simpa using hs, ?_⟩
    rw [← ht]
    apply List.ext_getElem?
    intro q
    by_cases hq : q < n * s
    · rw [List.getElem?_take_of_lt hq, List.getElem?_set]
      by_cases e2 : i = q
      · subst e2
        simp only [if_true]
        by_cases hz : i < cur.size
        · simp [hz]
          omega
        · simp [hz]
          omega
      · rw [if_neg e2, List.getElem?_take_of_lt hq]
        simp [e2]
    · rw [List.getElem?_eq_none (by simp; omega), List.getElem?_eq_none (by simp; omega)]
theorem fileCells_syn : ∀ {l : List F} {i : Nat} (h : i < l.length) (z : Nat), (fileCells l).set (i * 3 + 2) (.int .i64 (z : Int)) = fileCells (l.set i ⟨l[i].name, l[i].data, z⟩)
  | f :: l, 0, _, z => rfl
  | f :: l, i + 1, h, z => by
    have := fileCells_syn (l := l) (i := i) (by simpa using h) z
    have e : (i + 1) * 3 + 2 = (i * 3 + 2) + 1 + 1 + 1 := by omega
    rw [e]
    simp only [fileCells, List.set_cons_succ, List.getElem_cons_succ]
    rw [this]
theorem fileCells_data : ∀ {l : List F} {i : Nat} (h : i < l.length) (t : Tx), (fileCells l).set (i * 3 + 1) (.string (B t)) = fileCells (l.set i ⟨l[i].name, t, l[i].syn⟩)
  | f :: l, 0, _, t => rfl
  | f :: l, i + 1, h, t => by
    have := fileCells_data (l := l) (i := i) (by simpa using h) t
    have e : (i + 1) * 3 + 1 = (i * 3 + 1) + 1 + 1 + 1 := by omega
    rw [e]
    simp only [fileCells, List.set_cons_succ, List.getElem_cons_succ]
    rw [this]
/-- What a walk that writes knows of the disk. -/
structure MWr (bs : Nat) (w : World) (p : Nat) (room : Int) (l : List F) (g cap : Nat) : Prop where
  own : w.heap[p]? = some (.cells #[.slice (some ⟨g, 0, none⟩) l.length cap, .int .i64 room] 60 (0, 0))
  lo : bs ≤ p
  row : w.ownsRow bs 68 3 (.slice (some ⟨g, 0, none⟩) l.length cap) l.length (fileCells l)
theorem MAt.wr {w : World} {p : Nat} {room : Int} {l : List F} (h : MAt bs w p room l) (hl : 0 < l.length) : ∃ g cap, MWr bs w p room l g cap := by
  obtain ⟨hlo, v, hp, hr⟩ := h
  have h2 := hr.2
  rcases h2 with ⟨_, h0⟩ | ⟨g, cap, cur, rfl, _⟩
  · omega
  · exact ⟨g, cap, hp, hlo, hr⟩
theorem MWr.at {w : World} {p : Nat} {room : Int} {l : List F} {g cap : Nat} (h : MWr bs w p room l g cap) : MAt bs w p room l := ⟨h.lo, _, h.own, h.row⟩
theorem MWr.quiet {w w' : World} {p : Nat} {room : Int} {l : List F} {g cap : Nat} (h : MWr bs w p room l g cap) (hq : sQuiet w w') : MWr bs w' p room l g cap := by
  obtain ⟨n, rfl⟩ := hq
  exact ⟨h.own, h.lo, h.row⟩
theorem MWr.blk {w : World} {p : Nat} {room : Int} {l : List F} {g cap : Nat} (h : MWr bs w p room l g cap) : ∃ cur, w.heap[g]? = some (.cells cur 68 (0, 0)) ∧ cur.size = cap * 3 ∧ l.length ≤ cap ∧ g ≠ p ∧ bs ≤ g := by
  rcases h.row.2 with ⟨h2, _⟩ | ⟨g2, cap2, cur, hv, hb, hg, hn, hc, hs, ht⟩
  · cases h2
  · cases hv
    refine ⟨cur, hg, hs, hn, fun e => ?_, hb⟩
    subst e
    have := h.own
    rw [hg] at this
    simp at this
theorem MWr.cells {w : World} {p : Nat} {room : Int} {l : List F} {g cap : Nat} (h : MWr bs w p room l g cap) : w.cell? ⟨p, 0, none⟩ = some (.slice (some ⟨g, 0, none⟩) l.length cap) ∧ w.cell? ⟨p, 1, none⟩ = some (.int .i64 room) := by
  constructor <;> simp [World.cell?, h.own]
theorem MWr.cell {w : World} {p : Nat} {room : Int} {l : List F} {g cap : Nat} (h : MWr bs w p room l g cap) {j : Nat} (hj : j < l.length * 3) : w.cell? ⟨g, j, none⟩ = (fileCells l)[j]? := by
  rcases h.row.2 with ⟨h2, _⟩ | ⟨g2, cap2, cur, hv, hb, hg, hn, hc, hs, ht⟩
  · cases h2
  · cases hv
    rw [← ht, List.getElem?_take_of_lt hj]
    simp [World.cell?, hg]
theorem MWr.loose {w : World} {p : Nat} {room : Int} {l : List F} {g cap : Nat} (h : MWr bs w p room l g cap) (j : Nat) : w.frozen? ⟨g, j, none⟩ = false := by
  obtain ⟨cur, hg, _⟩ := h.blk
  simp [World.frozen?, hg]
theorem MWr.setRow {w : World} {p : Nat} {room : Int} {l k : List F} {g cap i : Nat} {u : Value} (h : MWr bs w p room l g cap) (hk : k.length = l.length) (e : (fileCells l).set i u = fileCells k) : MWr bs (w.setCell ⟨g, i, none⟩ u) p room k g cap := by
  obtain ⟨cur, hg, _, _, hne, _⟩ := h.blk
  refine ⟨?_, h.lo, ?_⟩
  · rw [set_oth (fun e => hne e.symm), hk]; exact h.own
  · have := row_set h.row (i := i) u
    rw [e, ← hk] at this
    exact this

set_option maxHeartbeats 2000000 in
set_option maxRecDepth 100000 in
theorem mSync_l (p : Nat) (room : Int) (l : List F) (n : Tx) (e : Nat) (l2 : List F) (w : World) (hm : MAt bs w p room l) (hs : Sorted l) (hl : l.length ≤ 1000) (hd : ∀ f ∈ l, f.data.length ≤ 4000000000) (H : Hid (sync n l = (e, l2))) :
    Calls Try.prog 30 #[.pointer (some ⟨p, 0, none⟩), .string (B n)] w fun x w' => x = .returned (.int .i64 (e : Int)) ∧ MAt bs w' p room l2 ∧ Kp bs p w w' := by
  obtain ⟨k, HK⟩ : ∃ k, Hid (idx n l = k) := ⟨_, Lib.hid rfl⟩
  have HM := Lib.hid hm
  have HS := Lib.hid hs
  cases hf : find n l with
  | none =>
    have HE : Hid (e = 6 ∧ l2 = l) := Lib.hid (by
      have := H.out
      unfold sync at this
      rw [hf] at this
      exact ⟨(congrArg Prod.fst this).symm, (congrArg Prod.snd this).symm⟩)
    have HI : Hid (isAt n l = false) := Lib.hid (by unfold isAt; rw [hf]; rfl)
    clear hf hm hs hd
    go_enter Try.func30, Try.ntmps30
    go_wp2_with fail
    refine (mFind_l p room l n k false _ HM.out HS.out hl HK HI).mono ?_
    rintro x w1 ⟨rfl, q, rfl⟩
    go_wp2
    go_ret
    rw [HE.out.1, HE.out.2]
    exact ⟨rfl, HM.out, (Kp.refl p w).drewN _⟩
  | some f =>
    obtain ⟨hlt, hfe⟩ : ∃ h : k < l.length, l[k] = f := by
      have := idx_of hs hf
      simp only [HK.out] at this
      exact this
    obtain ⟨hmem, hnm⟩ := find_some hf
    have hdl := hd f hmem
    have HE : Hid (e = 0 ∧ l2 = l.set k ⟨f.name, f.data, f.data.length⟩) := Lib.hid (by
      have := H.out
      unfold sync at this
      rw [hf] at this
      refine ⟨(congrArg Prod.fst this).symm, (congrArg Prod.snd this).symm.trans ?_⟩
      dsimp only
      rw [hnm, put_old (f := ⟨n, f.data, f.data.length⟩) hs (by rw [hf]; intro h; cases h), HK.out])
    have HI : Hid (isAt n l = true) := Lib.hid (by unfold isAt; rw [hf]; rfl)
    obtain ⟨g, cap, hw⟩ := hm.wr (by omega)
    have HC := Lib.hid (fileCells_at hlt)
    rw [hfe] at HC
    have HSY := Lib.hid (fileCells_syn hlt f.data.length)
    rw [hfe] at HSY
    have HW := Lib.hid hw
    clear hf hm hs hd hw hmem hnm hfe
    have hk1 : (k : Int) < (l.length : Int) := by omega
    go_enter Try.func30, Try.ntmps30
    go_wp2_with fail
    refine (mFind_l p room l n k true _ HM.out HS.out hl HK HI).mono ?_
    rintro x w1 ⟨rfl, hq⟩
    have HW1 := Lib.hid (HW.out.quiet hq)
    have HKP := Lib.hid (Kp.quiet (bs := bs) (p := p) hq)
    clear hq HW HM
    have c0 := HW1.out.cells.1
    have x1 : w1.cell? ⟨g, k * 3 + 1, none⟩ = some (.string (B f.data)) := (HW1.out.cell (by omega)).trans HC.out.2.1
    have x2 : w1.cell? ⟨g, k * 3 + 2, none⟩ = some (.int .i64 (f.syn : Int)) := (HW1.out.cell (by omega)).trans HC.out.2.2
    have f2 := HW1.out.loose (k * 3 + 2)
    go_wp2
    go_region
    all_goals (try go_wp2)
    go_ret
    rw [HE.out.1, HE.out.2]
    obtain ⟨cur, hg, -, -, -, hlo⟩ := HW1.out.blk
    exact ⟨rfl, (MWr.setRow (HW1.out.quiet ⟨_, rfl⟩) (List.length_set ..) HSY.out).at, ((HKP.out.drewN _).set_row hg hlo _ _)⟩
end Go.Proofs.Ytamfhndcekcloaa.D
