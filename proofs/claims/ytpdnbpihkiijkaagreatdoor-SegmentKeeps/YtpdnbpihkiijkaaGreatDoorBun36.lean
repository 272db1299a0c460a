/-
  Own texts, joined: SegCode6 SegCode7 SegCode8 SegCode9 SegCode10 SegCode11 SegCode12 SegCode13 SegCode14 SegCode15
-/
import Derived.Test.YtpdnbpihkiijkaaGreatDoorBun35
import Derived.Test.YtpdnbpihkiijkaaGreatDoorBun30
import Derived.Test.YtpdnbpihkiijkaaGreatDoorBun29
import Derived.Test.YtpdnbpihkiijkaaGreatDoorBun20
import Derived.Test.YtpdnbpihkiijkaaGreatDoorBun10

/-
  The segment package: entries; the row of entries that Load collects.
-/
namespace Go.Proofs.YtpdnbpihkiijkaaGreatDoor.G
open Go.RowKit Go.Shelf
open D (dP)
attribute [local go_sem] Oper.semAt_some ext_Bd ext_Bl ext_Bt toList_B add_B size_B get_Bt

set_option maxRecDepth 100000 in
set_option maxHeartbeats 1000000 in
theorem entries_in (n : Nat) (a : Option Addr) (m c : Nat) (first : Int) (w : World) :
    CallsIn Fence.wide n Tryz.prog 50 #[.slice a m c, .int .i64 first] w fun e w' => e = .returned (.func (.func 84) #[] #[.pointer (some ⟨w.heap.size + 1, 0, none⟩), .pointer (some ⟨w.heap.size, 0, none⟩)]) ∧ w' = (w.alloc (.cells #[.slice a m c] 65)).alloc (.cells #[.int .i64 first] 3) := by
  refine callsIn_of_wp Tryz.func50 rfl trivial ?_ rfl
  simp only [Tryz.ntmps50, List.size_toArray, List.length_cons, List.length_nil, Nat.reduceAdd, Nat.reduceSub, Array.replicate_succ, Array.replicate_zero, List.push_toArray, List.append_toArray, List.nil_append, List.cons_append]
  gi_wp2
  go_ret
  exact ⟨rfl, rfl⟩

/-- A row of entries, and their events, that lie from base on. -/
structure RowX (base : Nat) (v : Value) (wr : World) (es : List EV) : Prop where
  own : wr.ownsRow base 55 7 v es.length (enCells es)
  ev : ∀ p ∈ es, i64B p.1.pos ∧ R.right p.1 = true ∧ wr.ownsRow base 98 2 p.2 p.1.b.events.length (evCells p.1.b.events)
theorem RowX.nil (base : Nat) (wr : World) : RowX base (.slice none 0 0) wr [] := ⟨World.ownsRow_nil _ _ _ _, fun p hp => by cases hp⟩
theorem RowX.reads {base : Nat} {v : Value} {wr : World} {es : List EV} (h : RowX base v wr es) : ReadsR wr v es :=
  readsR_own h.own fun p hp => ⟨readsE_own (h.ev p hp).2.2, (h.ev p hp).1⟩
theorem own_cells {w w' : World} {base e s n : Nat} {v : Value} {xs : List Value} (h : w.ownsRow base e s v n xs) (hk : ∀ k cs t fr, base ≤ k → w.heap[k]? = some (.cells cs t fr) → w'.heap[k]? = w.heap[k]?) : w'.ownsRow base e s v n xs := by
  refine ⟨h.1, ?_⟩
  rcases h.2 with h2 | ⟨g, cap, cur, rfl, hb, hg, hr⟩
  · exact .inl h2
  · exact .inr ⟨g, cap, cur, rfl, hb, (hk _ _ _ _ hb hg).trans hg, hr⟩
/-- All blocks of cells from base on stay. -/
theorem RowX.keep {base : Nat} {v : Value} {wr w' : World} {es : List EV} (h : RowX base v wr es) (hk : ∀ k cs t fr, base ≤ k → wr.heap[k]? = some (.cells cs t fr) → w'.heap[k]? = wr.heap[k]?) : RowX base v w' es :=
  ⟨own_cells h.own hk, fun p hp => ⟨(h.ev p hp).1, (h.ev p hp).2.1, own_cells (h.ev p hp).2.2 hk⟩⟩
/-- A row that lies from lim on is kept by what keeps the blocks from lim on. -/
theorem RowX.keep_from {base lim : Nat} {v : Value} {wr w' : World} {es : List EV} (_ : RowX base v wr es) (h : RowX lim v wr es) (hk : ∀ k cs t fr, lim ≤ k → wr.heap[k]? = some (.cells cs t fr) → w'.heap[k]? = wr.heap[k]?) (hbl : base ≤ lim := by omega) : RowX base v w' es := by
  have h2 := h.keep hk
  exact ⟨own_base5 h2.own hbl, fun p hp => ⟨(h2.ev p hp).1, (h2.ev p hp).2.1, own_base5 (h2.ev p hp).2.2 hbl⟩⟩
theorem RowX.below {base : Nat} {v : Value} {wr w' : World} {es : List EV} (h : RowX base v wr es) (hb : Below wr.heap.size wr w') : RowX base v w' es :=
  h.keep fun k _ _ _ _ hk => hb.block k (Array.getElem?_eq_some_iff.1 hk).1
theorem RowX.but {base : Nat} {v : Value} {wr w' : World} {es : List EV} {S : Nat → Prop} (h : RowX base v wr es) (hb : D.But S wr w') (hs : ∀ k, base ≤ k → ¬ S k) : RowX base v w' es :=
  h.keep fun k _ _ _ h1 hk => hb.block k (Array.getElem?_eq_some_iff.1 hk).1 (hs k h1)
theorem RowX.next {base : Nat} {wr w' : World} {v v' u : Value} {es : List EV} {e : R.En} {o : Obj} (h : RowX base v wr es) (hp : i64B e.pos) (hr : R.right e = true) (he : wr.ownsRow base 98 2 u e.b.events.length (evCells e.b.events)) (hown : w'.ownsRow base 55 7 v' (es.length + 1) (enCells es ++ evCells7 (e, u))) (hg : (wr.alloc o).grownBy w' v.ownBlock) : RowX base v' w' (es ++ [(e, u)]) := by
  refine ⟨by rw [enCells_snoc, List.length_append]; exact hown, fun p hp2 => ?_⟩
  rcases List.mem_append.1 hp2 with hp2 | hp2
  · obtain ⟨h1, h2, h3⟩ := h.ev p hp2
    exact ⟨h1, h2, ev_kept h3 h.own hg⟩
  · rw [List.mem_singleton] at hp2
    subst hp2
    exact ⟨hp, hr, ev_kept he h.own hg⟩
theorem RowX.held {base k off n c : Nat} {v : Value} {wr : World} {es : List EV} (h : RowX base v wr es) (he : v = .slice (some ⟨k, off, none⟩) n c) : base ≤ k ∧ k < wr.heap.size := by
  rcases h.own.2 with ⟨h2, _⟩ | ⟨g, cap, cur, h2, hb, hg, _⟩
  · rw [he] at h2; cases h2
  · rw [he] at h2; cases h2
    exact ⟨hb, (Array.getElem?_eq_some_iff.1 hg).1⟩
theorem cells_grown {B : Nat} {W W' : World} {row : Option Nat} (hg : W.grownBy W' row) (hr : ∀ r, row = some r → B ≤ r ∧ ∃ o : Obj, W.heap[r]? = some o ∧ o.isCells = false) {k : Nat} {cs : Array Value} {t : TypeId} {fr : Nat × Nat} (h : W.heap[k]? = some (.cells cs t fr)) : W'.heap[k]? = W.heap[k]? :=
  hg.block k (Array.getElem?_eq_some_iff.1 h).1 fun e => by
    obtain ⟨_, o, ho, hc⟩ := hr k e.symm
    rw [h] at ho
    cases ho
    cases hc

abbrev segObj (first : Int) (v : Value) (t : Bool) : Obj := .cells #[.int .i64 first, v, .bool t] 38 (0, 0)
/-- Between two rounds of Load: the segment's block b, the result's block g, the row. -/
def LoadI (w0 : World) (lim b g : Nat) (first : Int) (pre : List EV) (W : World) : Prop :=
  ∃ v, W.heap[b]? = some (segObj first v false) ∧ RowX lim v W pre ∧ W.heap[g]? = some (segObj 0 (.slice none 0 0) false) ∧ lim ≤ W.heap.size ∧ Below w0.heap.size w0 W
theorem LoadI.own (w0 : World) (lim b g : Nat) (first : Int) (h : w0.heap.size ≤ lim) : OwnFrom lim (LoadI w0 lim b g first) := by
  rintro pre W W' row ⟨v, h1, h2, h3, h4, h5⟩ hg hr
  refine ⟨v, (cells_grown hg hr h1).trans h1, h2.keep fun _ _ _ _ _ hk => cells_grown hg hr hk, (cells_grown hg hr h3).trans h3, Nat.le_trans h4 hg.size, ?_⟩
  refine h5.grown hg h5.size fun k e => ?_
  have := (hr k e).1
  omega
theorem own_lt {w : World} {base e s n k : Nat} {v : Value} {xs : List Value} (h : w.ownsRow base e s v n xs) (hk : v.ownBlock = some k) : base ≤ k ∧ k < w.heap.size ∧ ∃ cs, w.heap[k]? = some (.cells cs e (0, 0)) := by
  rcases h.2 with ⟨h2, _⟩ | ⟨g, cap, cur, h2, hb, hg, _⟩
  · rw [h2] at hk; cases hk
  · rw [h2] at hk
    have : g = k := by simpa [Value.ownBlock] using hk
    subst this
    exact ⟨hb, (Array.getElem?_eq_some_iff.1 hg).1, cur, hg⟩
theorem own_form {w : World} {base e s n k : Nat} {v : Value} {xs : List Value} (h : w.ownsRow base e s v n xs) (hk : v.ownBlock = some k) : ∃ c, v = .slice (some ⟨k, 0, none⟩) n c := by
  rcases h.2 with ⟨h2, _⟩ | ⟨g, cap, cur, h2, hb, hg, _⟩
  · rw [h2] at hk; cases hk
  · rw [h2] at hk
    have : g = k := by simpa [Value.ownBlock] using hk
    subst this
    exact ⟨cap, h2⟩
theorem own_slice {w : World} {base e s n : Nat} {v : Value} {xs : List Value} (h : w.ownsRow base e s v n xs) : ∃ a c, v = .slice a n c := by
  rcases h.2 with ⟨h2, h0⟩ | ⟨g, cap, cur, h2, _⟩
  · exact ⟨none, 0, by rw [h2, h0]⟩
  · exact ⟨_, cap, h2⟩
/-- A round's end: the entry was appended, the row stored in the segment's block. -/
theorem load_step {w W2 w9 : World} {lim b g : Nat} {f : Int} {v v' u : Value} {pre : List EV} {e : R.En} {Y : Obj} (hbl : b < lim) (hwg : w.heap.size ≤ g) (hgb : g < b) (hv : W2.heap[b]? = some (segObj f v false)) (hrow : RowX lim v W2 pre) (hg : W2.heap[g]? = some (segObj 0 (.slice none 0 0) false)) (hsz : lim ≤ W2.heap.size) (hB : Below w.heap.size w W2)
    (hp : i64B e.pos) (hr : R.right e = true) (hev : W2.ownsRow lim 98 2 u e.b.events.length (evCells e.b.events))
    (hown : w9.ownsRow lim 55 7 v' (pre.length + 1) (enCells pre ++ evCells7 (e, u))) (hgrow : (W2.alloc Y).grownBy w9 v.ownBlock) :
    LoadI w lim b g f (pre ++ [(e, u)]) (w9.setCell ⟨b, 1, none⟩ v') ∧ (∀ k o, W2.heap[k]? = some o → k ≠ b → v.ownBlock ≠ some k → (w9.setCell ⟨b, 1, none⟩ v').heap[k]? = some o) ∧
      (∀ k, Held b (w9.setCell ⟨b, 1, none⟩ v') k → lim ≤ k ∧ k < (w9.setCell ⟨b, 1, none⟩ v').heap.size) ∧ W2.heap.size ≤ (w9.setCell ⟨b, 1, none⟩ v').heap.size ∧ w9.heap[b]? = some (segObj f v false) := by
  have key : ∀ k o, W2.heap[k]? = some o → v.ownBlock ≠ some k → w9.heap[k]? = some o := fun k o hk hne => by
    have hl := lt_of_block hk
    rw [hgrow.block k (by simp; omega) (fun e => hne e.symm), Below.heap_alloc _ _ _ hl]
    exact hk
  have hnb : v.ownBlock ≠ some b := fun h => by have := (own_lt hrow.own h).1; omega
  have hng : v.ownBlock ≠ some g := fun h => by have := (own_lt hrow.own h).1; omega
  have hv9 := key b _ hv hnb
  have hsz9 : W2.heap.size ≤ w9.heap.size := by have := hgrow.size; simp at this; omega
  have hsame : ∀ k, k ≠ b → (w9.setCell ⟨b, 1, none⟩ v').heap[k]? = w9.heap[k]? := fun k hk => Below.heap_setCell _ _ _ _ hk
  have hrow9 := hrow.next hp hr hev hown hgrow
  have hE : (w9.setCell ⟨b, 1, none⟩ v').heap[b]? = some (segObj f v' false) := set_block hv9 1 v'
  refine ⟨⟨v', hE, hrow9.keep fun k _ _ _ hk _ => hsame k (by omega), ?_, ?_, ?_⟩, fun k o hk h1 h2 => (hsame k h1).trans (key k o hk h2), fun k hk => ?_, ?_, hv9⟩
  · rw [hsame g (by omega)]; exact key g _ hg hng
  · simp; omega
  · have hbg : Below w.heap.size w w9 := (hB.alloc hB.size Y).grown hgrow (by have := hB.size; simp; omega) fun k e => by
      have := (own_lt hrow.own e).1
      omega
    exact hbg.setCell (p := ⟨b, 1, none⟩) (by show w.heap.size ≤ b; omega) v'
  · obtain ⟨off, n, c, hc⟩ := hk
    have h1 := block_cell hE 1
    rw [hc] at h1
    have h2 : v' = .slice (some ⟨k, off, none⟩) n c := by simpa using h1.symm
    have := RowX.held ⟨by rw [List.length_append, enCells_snoc]; exact hown, fun p hp2 => (hrow9.ev p hp2)⟩ h2
    simp
    exact this
  · simp; omega
end Go.Proofs.YtpdnbpihkiijkaaGreatDoor.G

/-
  The segment package: Load, where it errs.
-/
namespace Go.Proofs.YtpdnbpihkiijkaaGreatDoor.G
open Go.RowKit Go.Shelf
open D (dP)
attribute [local go_sem] ext_Bd ext_Bl ext_Bt toList_B add_B size_B get_Bt

theorem set_three {w : World} {g : Nat} {x0 x1 x2 : Value} {t : TypeId} (a0 a1 a2 : Value) (h : w.heap[g]? = some (.cells #[x0, x1, x2] t (0, 0))) :
    (((w.setCell ⟨g, 0, none⟩ a0).setCell ⟨g, 1, none⟩ a1).setCell ⟨g, 2, none⟩ a2).heap[g]? = some (.cells #[a0, a1, a2] t (0, 0)) := by
  have h1 : (w.setCell ⟨g, 0, none⟩ a0).heap[g]? = some (.cells #[a0, x1, x2] t (0, 0)) := set_block h 0 a0
  generalize w.setCell ⟨g, 0, none⟩ a0 = w1 at h1 ⊢
  have h2 : (w1.setCell ⟨g, 1, none⟩ a1).heap[g]? = some (.cells #[a0, a1, x2] t (0, 0)) := set_block h1 1 a1
  generalize w1.setCell ⟨g, 1, none⟩ a1 = w2 at h2 ⊢
  exact set_block h2 2 a2
theorem below_three {w w' : World} {g : Nat} (h : Below w.heap.size w w') (hg : w.heap.size ≤ g) (a0 a1 a2 : Value) :
    Below w.heap.size w (((w'.setCell ⟨g, 0, none⟩ a0).setCell ⟨g, 1, none⟩ a1).setCell ⟨g, 2, none⟩ a2) :=
  ((h.setCell (p := ⟨g, 0, none⟩) hg a0).setCell (p := ⟨g, 1, none⟩) hg a1).setCell (p := ⟨g, 2, none⟩) hg a2

set_option maxRecDepth 100000 in
set_option maxHeartbeats 4000000 in
theorem load_none (C : D.DC) {bs : Nat} {w : World} {p room : Nat} {l : List D.F} {S : Nat → Prop} (n : Nat) (hA : C.At bs w p room l S) (hI : D.Inv room l) (hroom : room ≤ 100000000) (hn : n ≤ 9) (hfind : D.find (nameS n) l = none) :
    Calls Tryz.prog 15 #[dP p, .int .i64 (n : Int)] w fun x w' => x = .returned (.tuple #[.agg #[.int .i64 0, .slice none 0 0, .bool false], .int .i64 6]) ∧ Below w.heap.size w w' := by
  have HRD := Lib.hid (show D.read (nameS n) l = ([], 6) by unfold D.read; rw [hfind])
  have HB0 : Hid (Below w.heap.size w (w.alloc (.cells #[.int .i64 0, .slice none 0 0, .bool false] 38))) := Lib.hid ((Below.refl _ w).alloc (Nat.le_refl _) _)
  have HG0 : Hid ((w.alloc (.cells #[.int .i64 0, .slice none 0 0, .bool false] 38)).heap[w.heap.size]? = some (segObj 0 (.slice none 0 0) false)) := Lib.hid (heap_alloc_new w _)
  have HNL := Lib.hid (name_len (n : Int))
  obtain ⟨nm, hnm⟩ : ∃ nm, nameS (n : Int) = nm := ⟨_, rfl⟩
  have HNM := Lib.hid hnm
  rw [hnm] at HNL HRD
  have hnl := HNL.out
  have HA := Lib.hid hA
  have HI := Lib.hid hI
  clear hA hI hnm HNL hfind
  go_enter Tryz.func15, Tryz.ntmps15
  go_wp2_with fail
  generalize w.alloc (.cells #[.int .i64 0, .slice none 0 0, .bool false] 38) = W0 at *
  refine (Name_l (n : Int) W0 ⟨by omega, by omega⟩ (.inr (by omega))).mono ?_
  rw [HNM.out]
  rintro x w1 ⟨rfl, hb1⟩
  have HB1 := Lib.hid (HB0.out.trans (hb1.mono HB0.out.size))
  have HG1 := Lib.hid (block_below HG0.out hb1)
  have HA1 := Lib.hid (C.below HA.out HB1.out)
  clear hb1
  go_wp2_with fail
  refine (C.read nm [] 6 HA1.out HI.out (by omega) (by omega) HRD.out).mono ?_
  rintro x w2 ⟨rfl, hb2⟩
  have HB2 := Lib.hid (HB1.out.trans (hb2.mono HB1.out.size))
  have HG2 := Lib.hid (block_below HG1.out hb2)
  clear hb2
  have g0 := block_cell HG2.out 0
  have g1 := block_cell HG2.out 1
  have g2 := block_cell HG2.out 2
  simp only [List.getElem?_toArray, List.getElem?_cons_zero, List.getElem?_cons_succ] at g0 g1 g2
  have l0 := block_loose HG2.out 0
  have l1 := block_loose HG2.out 1
  have l2 := block_loose HG2.out 2
  go_wp2
  have HK := Lib.hid (set_three (.int .i64 0) (.slice none 0 0) (.bool false) HG2.out)
  have HB9 := Lib.hid (below_three HB2.out (Nat.le_refl _) (.int .i64 0) (.slice none 0 0) (.bool false))
  generalize ((w2.setCell ⟨w.heap.size, 0, none⟩ (.int .i64 0)).setCell ⟨w.heap.size, 1, none⟩ (.slice none 0 0)).setCell ⟨w.heap.size, 2, none⟩ (.bool false) = w9 at HK HB9 ⊢
  have k0 := block_cell HK.out 0
  have k1 := block_cell HK.out 1
  have k2 := block_cell HK.out 2
  simp only [List.getElem?_toArray, List.getElem?_cons_zero, List.getElem?_cons_succ] at k0 k1 k2
  exact bodyPost_ret (v := .tuple #[.agg #[.int .i64 0, .slice none 0 0, .bool false], .int .i64 6]) (by simp [results, Tryz.results15, go_sem, k0, k1, k2]) rfl ⟨rfl, HB9.out⟩

/-- What is scanned are payloads. -/
theorem scan_good : ∀ (k : Nat) (s : Tx), s.length ≤ k → ∀ q ∈ (F.scan s).1, F.good q
  | 0, s, h => by
    have : s = [] := List.eq_nil_of_length_eq_zero (by omega)
    subst this
    rw [F.scan_bad (F.take_few (by simp))]
    intro q hq
    cases hq
  | k + 1, s, h => by
    rcases F.take_cases s with ⟨e, he, _⟩ | ⟨p, r, he⟩
    · rw [F.scan_bad he]
      intro q hq
      cases hq
    · have hi := F.take_inv he
      have hl : s.length = p.length + 8 + r.length := by rw [hi.1, List.length_append, F.frame_len]
      rw [F.scan_ok he]
      intro q hq
      rcases List.mem_cons.1 hq with rfl | hq
      · exact hi.2
      · exact scan_good k r (by omega) q hq
theorem inv_data {room : Nat} {l : List D.F} {nm s : Tx} {y : Nat} (hI : D.Inv room l) (h : D.find nm l = some ⟨nm, s, y⟩) : s.length ≤ room := by
  have h1 := D.used_del (n := nm) hI.sorted
  have h2 := hI.room
  rw [h] at h1
  have h3 : D.lenAt (some (⟨nm, s, y⟩ : D.F)) = s.length := rfl
  omega

set_option maxRecDepth 100000 in
set_option maxHeartbeats 4000000 in
theorem load_noscan (C : D.DC) {bs : Nat} {w : World} {p room : Nat} {l : List D.F} {S : Nat → Prop} (n : Nat) (hA : C.At bs w p room l S) (hI : D.Inv room l) (hroom : room ≤ 100000000) (hn : n ≤ 9) (s : Tx) (y : Nat) (hfind : D.find (nameS n) l = some ⟨nameS n, s, y⟩) (hs : (F.scan s).1 = []) :
    Calls Tryz.prog 15 #[dP p, .int .i64 (n : Int)] w fun x w' => x = .returned (.tuple #[.agg #[.int .i64 0, .slice none 0 0, .bool false], .int .i64 2]) ∧ Below w.heap.size w w' := by
  have hsl : s.length ≤ 100000000 := by
    have := inv_data hI hfind
    omega
  have HRD := Lib.hid (show D.read (nameS n) l = (s, 0) by unfold D.read; rw [hfind])
  have HS := Lib.hid hs
  have HB0 : Hid (Below w.heap.size w (w.alloc (.cells #[.int .i64 0, .slice none 0 0, .bool false] 38))) := Lib.hid ((Below.refl _ w).alloc (Nat.le_refl _) _)
  have HG0 : Hid ((w.alloc (.cells #[.int .i64 0, .slice none 0 0, .bool false] 38)).heap[w.heap.size]? = some (segObj 0 (.slice none 0 0) false)) := Lib.hid (heap_alloc_new w _)
  have HNL := Lib.hid (name_len (n : Int))
  obtain ⟨nm, hnm⟩ : ∃ nm, nameS (n : Int) = nm := ⟨_, rfl⟩
  have HNM := Lib.hid hnm
  rw [hnm] at HNL HRD
  have hnl := HNL.out
  have HA := Lib.hid hA
  have HI := Lib.hid hI
  clear hA hI hnm HNL hfind hs
  go_enter Tryz.func15, Tryz.ntmps15
  go_wp2_with fail
  generalize w.alloc (.cells #[.int .i64 0, .slice none 0 0, .bool false] 38) = W0 at *
  refine (Name_l (n : Int) W0 ⟨by omega, by omega⟩ (.inr (by omega))).mono ?_
  rw [HNM.out]
  rintro x w1 ⟨rfl, hb1⟩
  have HB1 := Lib.hid (HB0.out.trans (hb1.mono HB0.out.size))
  have HG1 := Lib.hid (block_below HG0.out hb1)
  have HA1 := Lib.hid (C.below HA.out HB1.out)
  clear hb1
  go_wp2_with fail
  refine (C.read nm s 0 HA1.out HI.out (by omega) (by omega) HRD.out).mono ?_
  rintro x w3 ⟨rfl, hb3⟩
  have HB3 := Lib.hid (HB1.out.trans (hb3.mono HB1.out.size))
  have HG3 := Lib.hid (block_below HG1.out hb3)
  clear hb3 HB1 HG1
  go_wp2_with fail
  refine (FScan_l s w3 (by omega)).mono ?_
  rw [HS.out]
  rintro x w2 ⟨v, rfl, how, hb2⟩
  obtain ⟨a, cp, rfl, _⟩ := reads_own how
  simp only [strCells_len, List.length_nil]
  have HB2 := Lib.hid (HB3.out.trans (hb2.mono HB3.out.size))
  have HG2 := Lib.hid (block_below HG3.out hb2)
  clear hb2 how
  have g0 := block_cell HG2.out 0
  have g1 := block_cell HG2.out 1
  have g2 := block_cell HG2.out 2
  simp only [List.getElem?_toArray, List.getElem?_cons_zero, List.getElem?_cons_succ] at g0 g1 g2
  have l0 := block_loose HG2.out 0
  have l1 := block_loose HG2.out 1
  have l2 := block_loose HG2.out 2
  go_wp2
  have HK := Lib.hid (set_three (.int .i64 0) (.slice none 0 0) (.bool false) HG2.out)
  have HB9 := Lib.hid (below_three HB2.out (Nat.le_refl _) (.int .i64 0) (.slice none 0 0) (.bool false))
  generalize ((w2.setCell ⟨w.heap.size, 0, none⟩ (.int .i64 0)).setCell ⟨w.heap.size, 1, none⟩ (.slice none 0 0)).setCell ⟨w.heap.size, 2, none⟩ (.bool false) = w9 at HK HB9 ⊢
  have k0 := block_cell HK.out 0
  have k1 := block_cell HK.out 1
  have k2 := block_cell HK.out 2
  simp only [List.getElem?_toArray, List.getElem?_cons_zero, List.getElem?_cons_succ] at k0 k1 k2
  exact bodyPost_ret (v := .tuple #[.agg #[.int .i64 0, .slice none 0 0, .bool false], .int .i64 2]) (by simp [results, Tryz.results15, go_sem, k0, k1, k2]) rfl ⟨rfl, HB9.out⟩

set_option maxRecDepth 100000 in
set_option maxHeartbeats 4000000 in
theorem load_nohead (C : D.DC) {bs : Nat} {w : World} {p room : Nat} {l : List D.F} {S : Nat → Prop} (n : Nat) (hA : C.At bs w p room l S) (hI : D.Inv room l) (hroom : room ≤ 100000000) (hn : n ≤ 9) (s : Tx) (y : Nat) (q : Tx) (qs : List Tx) (hfind : D.find (nameS n) l = some ⟨nameS n, s, y⟩) (hs : (F.scan s).1 = q :: qs) (hq : headOf q = none) :
    Calls Tryz.prog 15 #[dP p, .int .i64 (n : Int)] w fun x w' => x = .returned (.tuple #[.agg #[.int .i64 0, .slice none 0 0, .bool false], .int .i64 2]) ∧ Below w.heap.size w w' := by
  have hsl : s.length ≤ 100000000 := by
    have := inv_data hI hfind
    omega
  have HRD := Lib.hid (show D.read (nameS n) l = (s, 0) by unfold D.read; rw [hfind])
  have HS := Lib.hid hs
  have HQ := Lib.hid hq
  have hql : q.length ≤ 100000 := by have := scan_good s.length s (Nat.le_refl _) q (by rw [hs]; simp); unfold F.good at this; omega
  have HB0 : Hid (Below w.heap.size w (w.alloc (.cells #[.int .i64 0, .slice none 0 0, .bool false] 38))) := Lib.hid ((Below.refl _ w).alloc (Nat.le_refl _) _)
  have HG0 : Hid ((w.alloc (.cells #[.int .i64 0, .slice none 0 0, .bool false] 38)).heap[w.heap.size]? = some (segObj 0 (.slice none 0 0) false)) := Lib.hid (heap_alloc_new w _)
  have HNL := Lib.hid (name_len (n : Int))
  obtain ⟨nm, hnm⟩ : ∃ nm, nameS (n : Int) = nm := ⟨_, rfl⟩
  have HNM := Lib.hid hnm
  rw [hnm] at HNL HRD
  have hnl := HNL.out
  have HA := Lib.hid hA
  have HI := Lib.hid hI
  clear hA hI hnm HNL hfind hs hq
  go_enter Tryz.func15, Tryz.ntmps15
  go_wp2_with fail
  generalize w.alloc (.cells #[.int .i64 0, .slice none 0 0, .bool false] 38) = W0 at *
  refine (Name_l (n : Int) W0 ⟨by omega, by omega⟩ (.inr (by omega))).mono ?_
  rw [HNM.out]
  rintro x w1 ⟨rfl, hb1⟩
  have HB1 := Lib.hid (HB0.out.trans (hb1.mono HB0.out.size))
  have HG1 := Lib.hid (block_below HG0.out hb1)
  have HA1 := Lib.hid (C.below HA.out HB1.out)
  clear hb1
  go_wp2_with fail
  refine (C.read nm s 0 HA1.out HI.out (by omega) (by omega) HRD.out).mono ?_
  rintro x w3 ⟨rfl, hb3⟩
  have HB3 := Lib.hid (HB1.out.trans (hb3.mono HB1.out.size))
  have HG3 := Lib.hid (block_below HG1.out hb3)
  clear hb3 HB1 HG1
  go_wp2_with fail
  refine (FScan_l s w3 (by omega)).mono ?_
  rw [HS.out]
  rintro x w4 ⟨v, rfl, how, hb4⟩
  have hz : w4.cell? = w4.cell? := rfl
  obtain ⟨g4, cp, rfl⟩ := ownsRow_succ (k := qs.length) how
  have hc4 : w4.cell? ⟨g4, 0, none⟩ = some (.string (B q)) := by
    have := how.cellAt 0 (by simp)
    simpa [strCells] using this
  have hi1 : (0 : Int) < ((qs.length + 1 : Nat) : Int) := by omega
  have hi0 : ((qs.length : Int) + 1 == 0) = false := beq_eq_false_iff_ne.2 (by omega)
  have HB4 := Lib.hid (HB3.out.trans (hb4.mono HB3.out.size))
  have HG4 := Lib.hid (block_below HG3.out hb4)
  clear hb4 how hz
  go_wp2_with fail
  refine (firstOf_no q w4 hql HQ.out).mono ?_
  rintro x w2 ⟨⟨f0, rfl⟩, hb2⟩
  have HB2 := Lib.hid (HB4.out.trans (hb2.mono HB4.out.size))
  have HG2 := Lib.hid (block_below HG4.out hb2)
  clear hb2 hc4
  have g0 := block_cell HG2.out 0
  have g1 := block_cell HG2.out 1
  have g2 := block_cell HG2.out 2
  simp only [List.getElem?_toArray, List.getElem?_cons_zero, List.getElem?_cons_succ] at g0 g1 g2
  have l0 := block_loose HG2.out 0
  have l1 := block_loose HG2.out 1
  have l2 := block_loose HG2.out 2
  go_wp2
  have HK := Lib.hid (set_three (.int .i64 0) (.slice none 0 0) (.bool false) HG2.out)
  have HB9 := Lib.hid (below_three HB2.out (Nat.le_refl _) (.int .i64 0) (.slice none 0 0) (.bool false))
  generalize ((w2.setCell ⟨w.heap.size, 0, none⟩ (.int .i64 0)).setCell ⟨w.heap.size, 1, none⟩ (.slice none 0 0)).setCell ⟨w.heap.size, 2, none⟩ (.bool false) = w9 at HK HB9 ⊢
  have k0 := block_cell HK.out 0
  have k1 := block_cell HK.out 1
  have k2 := block_cell HK.out 2
  simp only [List.getElem?_toArray, List.getElem?_cons_zero, List.getElem?_cons_succ] at k0 k1 k2
  exact bodyPost_ret (v := .tuple #[.agg #[.int .i64 0, .slice none 0 0, .bool false], .int .i64 2]) (by simp [results, Tryz.results15, go_sem, k0, k1, k2]) rfl ⟨rfl, HB9.out⟩
end Go.Proofs.YtpdnbpihkiijkaaGreatDoor.G

/-
  The segment package: Load, of a segment.
-/
namespace Go.Proofs.YtpdnbpihkiijkaaGreatDoor.G
open Go.RowKit Go.Shelf
open D (dP)
attribute [local go_sem] Oper.semAt_some ext_Bd ext_Bl ext_Bt toList_B add_B size_B get_Bt

theorem scan_len : ∀ (k : Nat) (s : Tx), s.length ≤ k → (F.scan s).2 = (F.frames (F.scan s).1).length
  | 0, s, h => by
    have : s = [] := List.eq_nil_of_length_eq_zero (by omega)
    subst this
    rw [F.scan_bad (F.take_few (by simp))]
    rfl
  | k + 1, s, h => by
    rcases F.take_cases s with ⟨e, he, _⟩ | ⟨p, r, he⟩
    · rw [F.scan_bad he]; rfl
    · have hi := F.take_inv he
      have hl : s.length = p.length + 8 + r.length := by rw [hi.1, List.length_append, F.frame_len]
      have h2 := scan_len k r (by omega)
      rw [F.scan_ok he, F.frames_cons, List.length_append, F.frame_len, ← h2]
theorem torn_is {s q : Tx} {qs : List Tx} {f : Nat} (hs : (F.scan s).1 = q :: qs) (hq : headOf q = some f) : ((F.scan s).2 < s.length ∨ (goOn qs ((f : Int) - 1) 0).length < qs.length) ↔ segB f (goOn qs ((f : Int) - 1) 0) ≠ s := by
  obtain ⟨r, hr⟩ := scan_inv s.length s (Nat.le_refl _)
  have hw := scan_len s.length s (Nat.le_refl _)
  obtain ⟨rest, hrest⟩ := goOn_part qs ((f : Int) - 1) 0
  have hqe := (headOf_inv hq).1
  rw [hs, hqe] at hr hw
  have hl := congrArg List.length hr
  have hrl := congrArg List.length hrest
  rw [List.length_append] at hl hrl
  rw [List.length_map] at hrl
  have hseg : s = segB f (goOn qs ((f : Int) - 1) 0) ++ (F.frames rest ++ r) := by
    rw [segB_eq, List.append_assoc, ← List.append_assoc (F.frames _), ← F.frames_append, ← hrest, ← List.append_assoc, ← F.frames_cons]
    exact hr
  have hsl := congrArg List.length hseg
  rw [List.length_append, List.length_append] at hsl
  have hfr := frames_ge rest
  have hfl : (F.frames (headP f :: qs)).length = (segB f (goOn qs ((f : Int) - 1) 0)).length + (F.frames rest).length := by
    rw [segB_eq, F.frames_cons]
    conv => lhs; rw [hrest]
    rw [F.frames_append, List.length_append, List.length_append, List.length_append]
    omega
  constructor
  · intro h e
    have := congrArg List.length e
    omega
  · intro h
    refine Classical.byContradiction fun hn => ?_
    have h1 : r.length = 0 := by omega
    have h2 : rest.length = 0 := by omega
    have e1 : r = [] := List.length_eq_zero_iff.1 h1
    have e2 : rest = [] := List.length_eq_zero_iff.1 h2
    subst e1 e2
    rw [F.frames_nil, List.append_nil, List.append_nil] at hseg
    exact h hseg.symm

/-- What Load tells. -/
def LoadRes (w w' : World) (x : Ending) (f : Nat) (es : List R.En) (t : Bool) : Prop := ∃ v xs, x = .returned (.tuple #[.agg #[.int .i64 (f : Int), v, .bool t], .int .i64 0]) ∧ ensOf xs = es ∧ RowX w.heap.size v w' xs
theorem RowX.low {a b : Nat} {v : Value} {wr : World} {es : List EV} (h : RowX a v wr es) (hab : b ≤ a) : RowX b v wr es :=
  ⟨own_base5 h.own hab, fun p hp => ⟨(h.ev p hp).1, (h.ev p hp).2.1, own_base5 (h.ev p hp).2.2 hab⟩⟩
/-- The worlds at Load's end. -/
theorem load_end {w W : World} {lim b g D : Nat} {f : Int} {v : Value} {xs : List EV} {tt : Bool} (hbl : b < lim) (hwg : w.heap.size ≤ g) (hgb : g < b) (hlD : lim ≤ D) (hlim : w.heap.size ≤ lim) (hgs : (W.setCell ⟨b, 2, none⟩ (.bool tt)).heap[g]? = some (segObj 0 (.slice none 0 0) false)) (hrow : RowX lim v W xs) (hB : Below w.heap.size w W) (hK : W.heap[D]? = some (.deferred (some []))) (o' : Obj) :
    ((((W.setCell ⟨b, 2, none⟩ (.bool tt)).setCell ⟨g, 0, none⟩ (.int .i64 f)).setCell ⟨g, 1, none⟩ v).setCell ⟨g, 2, none⟩ (.bool tt)).heap[D]? = some (.deferred (some [])) ∧
    (((((W.setCell ⟨b, 2, none⟩ (.bool tt)).setCell ⟨g, 0, none⟩ (.int .i64 f)).setCell ⟨g, 1, none⟩ v).setCell ⟨g, 2, none⟩ (.bool tt)).putObj D o').heap[g]? = some (segObj f v tt) ∧
    RowX w.heap.size v (((((W.setCell ⟨b, 2, none⟩ (.bool tt)).setCell ⟨g, 0, none⟩ (.int .i64 f)).setCell ⟨g, 1, none⟩ v).setCell ⟨g, 2, none⟩ (.bool tt)).putObj D o') xs ∧
    Below w.heap.size w (((((W.setCell ⟨b, 2, none⟩ (.bool tt)).setCell ⟨g, 0, none⟩ (.int .i64 f)).setCell ⟨g, 1, none⟩ v).setCell ⟨g, 2, none⟩ (.bool tt)).putObj D o') := by
  have hsame : ∀ k, k ≠ b → k ≠ g → ((((W.setCell ⟨b, 2, none⟩ (.bool tt)).setCell ⟨g, 0, none⟩ (.int .i64 f)).setCell ⟨g, 1, none⟩ v).setCell ⟨g, 2, none⟩ (.bool tt)).heap[k]? = W.heap[k]? := fun k h1 h2 => by
    rw [Below.heap_setCell _ _ _ _ h2, Below.heap_setCell _ _ _ _ h2, Below.heap_setCell _ _ _ _ h2, Below.heap_setCell _ _ _ _ h1]
  have hE := set_three (.int .i64 f) v (.bool tt) hgs
  have hD := (hsame D (by omega) (by omega)).trans hK
  have hBE : Below w.heap.size w ((((W.setCell ⟨b, 2, none⟩ (.bool tt)).setCell ⟨g, 0, none⟩ (.int .i64 f)).setCell ⟨g, 1, none⟩ v).setCell ⟨g, 2, none⟩ (.bool tt)) :=
    (((hB.setCell (p := ⟨b, 2, none⟩) (by show w.heap.size ≤ b; omega) _).setCell (p := ⟨g, 0, none⟩) hwg _).setCell (p := ⟨g, 1, none⟩) hwg _).setCell (p := ⟨g, 2, none⟩) hwg _
  refine ⟨hD, (World.putObj_heap_other (by omega)).trans hE, (hrow.low (b := w.heap.size) hlim).keep_from hrow fun k cs t fr h1 hk => ?_, hBE.grown (grownBy_putObj' _ D o') hBE.size fun k e => by cases e; omega⟩
  have hkD : k ≠ D := fun e => by subst e; rw [hk] at hK; cases hK
  exact (World.putObj_heap_other hkD).trans (hsame k (by omega) (by omega))

set_option maxRecDepth 100000 in
set_option maxHeartbeats 8000000 in
theorem load_ok (C : D.DC) {bs : Nat} {w : World} {p room : Nat} {l : List D.F} {S : Nat → Prop} (n : Nat) (hA : C.At bs w p room l S) (hI : D.Inv room l) (hroom : room ≤ 100000000) (hn : n ≤ 9) (s : Tx) (y : Nat) (q : Tx) (qs : List Tx) (f : Nat) (t : Bool) (hfind : D.find (nameS n) l = some ⟨nameS n, s, y⟩) (hs : (F.scan s).1 = q :: qs) (hq : headOf q = some f) (ht : decide (segB f (goOn qs ((f : Int) - 1) 0) ≠ s) = t) :
    Calls Tryz.prog 15 #[dP p, .int .i64 (n : Int)] w fun x w' => LoadRes w w' x f (goOn qs ((f : Int) - 1) 0) t ∧ Below w.heap.size w w' := by
  have hsl : s.length ≤ 100000000 := by
    have := inv_data hI hfind
    omega
  have HRD := Lib.hid (show D.read (nameS n) l = (s, 0) by unfold D.read; rw [hfind])
  have HS := Lib.hid hs
  have HQ := Lib.hid hq
  have HTI := Lib.hid (torn_is hs hq)
  have HT := Lib.hid ht
  have HFQ := Lib.hid (headOf_inv hq).2
  have hgood := scan_good s.length s (Nat.le_refl _)
  rw [hs] at hgood
  have HQL := Lib.hid (show ∀ z ∈ qs, z.length ≤ 100000 from fun z hz => by have := hgood z (by simp [hz]); unfold F.good at this; omega)
  have hqsl : qs.length ≤ s.length := by
    have h1 := frames_ge (q :: qs)
    have h2 := scan_len s.length s (Nat.le_refl _)
    obtain ⟨r, hr⟩ := scan_inv s.length s (Nat.le_refl _)
    have h3 := congrArg List.length hr
    rw [hs, List.length_append] at h3
    rw [List.length_cons] at h1
    omega
  have hwl : (F.scan s).2 ≤ s.length := by
    have h2 := scan_len s.length s (Nat.le_refl _)
    obtain ⟨r, hr⟩ := scan_inv s.length s (Nat.le_refl _)
    have h3 := congrArg List.length hr
    rw [List.length_append] at h3
    omega
  obtain ⟨wh, hwh⟩ : ∃ wh, (F.scan s).2 = wh := ⟨_, rfl⟩
  have HWH := Lib.hid hwh
  rw [hwh] at HTI hwl
  have HB0 : Hid (Below w.heap.size w (w.alloc (.cells #[.int .i64 0, .slice none 0 0, .bool false] 38))) := Lib.hid ((Below.refl _ w).alloc (Nat.le_refl _) _)
  have HG0 : Hid ((w.alloc (.cells #[.int .i64 0, .slice none 0 0, .bool false] 38)).heap[w.heap.size]? = some (segObj 0 (.slice none 0 0) false)) := Lib.hid (heap_alloc_new w _)
  have HNL := Lib.hid (name_len (n : Int))
  obtain ⟨nm, hnm⟩ : ∃ nm, nameS (n : Int) = nm := ⟨_, rfl⟩
  have HNM := Lib.hid hnm
  rw [hnm] at HNL HRD
  have hnl := HNL.out
  have HA := Lib.hid hA
  have HI := Lib.hid hI
  clear hA hI hnm HNL hfind hs hq ht hgood hwh
  obtain ⟨i0, hi, hz0, hz1, hz2⟩ := info_parts Tryz.infoEn
  refine (callsIn_wide (n := 9)).1 ?_
  refine callsIn_of_wp_marks Tryz.func15 rfl trivial ?_ rfl
  simp only [Tryz.ntmps15, List.size_toArray, List.length_cons, List.length_nil, Nat.reduceAdd, Nat.reduceSub, Array.replicate_succ, Array.replicate_zero, List.push_toArray, List.append_toArray, List.nil_append, List.cons_append]
  gi_wp2_with fail
  generalize w.alloc (.cells #[.int .i64 0, .slice none 0 0, .bool false] 38) = W0 at *
  refine ⟨trivial, (callsIn_wide.2 (Name_l (n : Int) W0 ⟨by omega, by omega⟩ (.inr (by omega)))).mono ?_⟩
  rw [HNM.out]
  rintro x w1 ⟨rfl, hb1⟩
  have HB1 := Lib.hid (HB0.out.trans (hb1.mono HB0.out.size))
  have HG1 := Lib.hid (block_below HG0.out hb1)
  have HA1 := Lib.hid (C.below HA.out HB1.out)
  clear hb1 HG0 HB0
  gi_wp2_with fail
  refine ⟨trivial, (callsIn_wide.2 (C.read nm s 0 HA1.out HI.out (by omega) (by omega) HRD.out)).mono ?_⟩
  rintro x w3 ⟨rfl, hb3⟩
  have HB3 := Lib.hid (HB1.out.trans (hb3.mono HB1.out.size))
  have HG3 := Lib.hid (block_below HG1.out hb3)
  clear hb3 HB1 HG1 HA1
  gi_wp2_with fail
  refine ⟨trivial, (callsIn_wide.2 (FScan_l s w3 (by omega))).mono ?_⟩
  rw [HS.out, HWH.out]
  rintro x w4 ⟨v, rfl, how, hb4⟩
  obtain ⟨g4, cp, rfl⟩ := ownsRow_succ (k := qs.length) how
  have hcp : qs.length + 1 ≤ cp ∧ w3.heap.size ≤ g4 ∧ g4 < w4.heap.size := by
    rcases how.2 with ⟨h, _⟩ | ⟨g, cap, cur, h, h1, h2, h3, _⟩
    · cases h
    · cases h
      exact ⟨h3, h1, (Array.getElem?_eq_some_iff.1 h2).1⟩
  have hc4 : w4.cell? ⟨g4, 0, none⟩ = some (.string (B q)) := by
    have := how.cellAt 0 (by simp)
    simpa [strCells] using this
  have HCS := Lib.hid (show ∀ i (h : i < qs.length), w4.cell? ⟨g4, 1 + i, none⟩ = some (.string (B qs[i])) from fun i h => by
    have := how.cellAt (1 + i) (by simp; omega)
    rw [this]
    simp [strCells, Nat.add_comm 1 i, h])
  have hi1 : (0 : Int) < ((qs.length + 1 : Nat) : Int) := by omega
  have hi0 : ((qs.length : Int) + 1 == 0) = false := beq_eq_false_iff_ne.2 (by omega)
  have HB4 := Lib.hid (HB3.out.trans (hb4.mono HB3.out.size))
  have HG4 := Lib.hid (block_below HG3.out hb4)
  have hsz4 := HB3.out.size
  clear hb4 how HB3 HG3
  gi_wp2_with fail
  refine ⟨trivial, (callsIn_wide.2 (firstOf_yes q f w4 HQ.out)).mono ?_⟩
  rintro x w5 ⟨rfl, hb5⟩
  have HB5 := Lib.hid (HB4.out.trans (hb5.mono HB4.out.size))
  have HG5 := Lib.hid (block_below HG4.out hb5)
  have HCS5 := Lib.hid (show ∀ i (h : i < qs.length), w5.cell? ⟨g4, 1 + i, none⟩ = some (.string (B qs[i])) from fun i h => below_keeps hb5 _ _ (HCS.out i h))
  have h45 := hb5.size
  clear hb5 HB4 HG4 HCS hc4
  obtain ⟨hcp1, hcp2, hcp3⟩ := hcp
  have hi2 : (1 : Int) ≤ ((qs.length + 1 : Nat) : Int) := by omega
  -- TAIL
  by_cases hcp0 : cp = 1
  · subst hcp0
    obtain rfl : qs = [] := List.eq_nil_of_length_eq_zero (by omega)
    gi_wp2_with fail
    refine ⟨trivial, (entries_in 8 (some ⟨g4, 0, none⟩) 0 0 (f : Int) _).mono ?_⟩
    rintro x w6 ⟨rfl, hw6⟩
    rw [World.size_alloc] at *
    obtain ⟨b, hbe⟩ : ∃ b, w5.heap.size = b := ⟨_, rfl⟩
    have hs6 : w6.heap.size = b + 3 := by rw [hw6, ← hbe]; simp
    have hal1 : Below w5.heap.size w5 (w5.alloc (.cells #[.int .i64 (f : Int), .slice none 0 0, .bool false] 38)) := (Below.refl _ w5).alloc (Nat.le_refl _) _
    have hal2 : Below (w5.alloc (.cells #[.int .i64 (f : Int), .slice none 0 0, .bool false] 38)).heap.size (w5.alloc (.cells #[.int .i64 (f : Int), .slice none 0 0, .bool false] 38)) w6 := by
      rw [hw6]; exact ((Below.refl _ _).alloc (Nat.le_refl _) _).alloc (by simp) _
    have h56 : Below w5.heap.size w5 w6 := hal1.trans (hal2.mono hal1.size)
    have HSB := Lib.hid (show w6.heap[b]? = some (segObj (f : Int) (.slice none 0 0) false) by
      rw [← hbe]; exact block_below (heap_alloc_new w5 _) hal2)
    have HBX2 := Lib.hid (show w6.cell? ⟨b + 1, 0, none⟩ = some (.slice (some ⟨g4, 0, none⟩) 0 0) by
      have h1 := heap_alloc_new (w5.alloc (.cells #[.int .i64 (f : Int), .slice none 0 0, .bool false] 38)) (.cells #[.slice (some ⟨g4, 0, none⟩) 0 0] 65)
      rw [World.size_alloc] at h1
      have h2 := block_below h1 (show Below _ _ (((w5.alloc (.cells #[.int .i64 (f : Int), .slice none 0 0, .bool false] 38)).alloc (.cells #[.slice (some ⟨g4, 0, none⟩) 0 0] 65)).alloc (.cells #[.int .i64 (f : Int)] 3)) from (Below.refl _ _).alloc (Nat.le_refl _) _)
      rw [← hw6] at h2
      rw [← hbe]
      exact block_cell h2 0)
    have HBX1 := Lib.hid (show w6.cell? ⟨b + 1 + 1, 0, none⟩ = some (.int .i64 (f : Int)) by
      have h1 := heap_alloc_new ((w5.alloc (.cells #[.int .i64 (f : Int), .slice none 0 0, .bool false] 38)).alloc (.cells #[.slice (some ⟨g4, 0, none⟩) 0 0] 65)) (.cells #[.int .i64 (f : Int)] 3)
      rw [World.size_alloc, World.size_alloc, ← hw6] at h1
      rw [← hbe]
      exact block_cell h1 0)
    have HB6 := Lib.hid (HB5.out.trans (h56.mono HB5.out.size))
    have HG6 := Lib.hid (block_below HG5.out h56)
    have hgb : w.heap.size < b := by
      have h1 := lt_of_block HG5.out
      omega
    have HFIX := Lib.hid (show FixAt b (b + 3) (b + 1 + 1) (b + 1) (f : Int) (.slice (some ⟨g4, 0, none⟩) 0 0) [] w6 from
      ⟨by omega, by omega, fun k hk => by
        obtain ⟨off, n2, c2, hc⟩ := hk
        have := block_cell HSB.out 1
        rw [hc] at this
        simp at this, ⟨HBX1.out, by omega, by omega⟩, ⟨HBX2.out, by omega, by omega⟩, ⟨(some ⟨g4, 0, none⟩), 0, rfl, fun i h => ⟨g4, 1, absurd h (by omega), by omega, by omega, below_keeps h56 _ _ (HCS5.out i h)⟩⟩⟩)
    clear hal1 hal2 h56 HB5 HG5 HCS5 HBX1 HBX2 hw6
    rw [hbe]
    gi_wp2_with fail
    refine range_yields rfl (by omega) (gf := 84) (lb := #[.pointer (some ⟨b + 1 + 1, 0, none⟩), .pointer (some ⟨b + 1, 0, none⟩)]) rfl trivial (enters_of Tryz.func84 (by kernel_rfl) rfl)
      (entries1_in 8 b (b + 3) (b + 1 + 1) (b + 1) f (.slice (some ⟨g4, 0, none⟩) 0 0) [] w6 HFQ.out HQL.out (by omega) HFIX.out) (Below.refl _ _) (fun _ => rfl) ?hKp
      (LoadI w (b + 3) b w.heap.size (f : Int)) (by rw [hs6]; exact LoadI.own w (b + 3) b w.heap.size (f : Int) (by omega))
      ⟨_, HSB.out, RowX.nil _ _, HG6.out, by omega, HB6.out⟩ ?round ?done
    case hKp =>
      intro A B0 l2 o r2 hl2 hA2 hk2
      have hbl2 : b ≠ l2 := by omega
      refine ⟨by simpa using hk2.size, fun k cs t2 fr hk3 h3 h4 => ?_, fun k hh => ?_⟩
      · have hne : k ≠ l2 := fun e => by subst e; rw [hA2] at hk3; cases hk3
        rw [World.putObj_heap_other hne]
        exact hk2.same _ _ _ _ hk3 h3 h4
      · obtain ⟨off, n2, c2, hc2⟩ := hh
        have := hk2.low k ⟨off, n2, c2, cell_same hc2 (World.putObj_heap_other hbl2).symm⟩
        simpa using this
    case round =>
      rintro l2 pre x W hl2 _ _ _ hlen
      exact absurd hlen (Nat.not_lt_zero _)
    case done =>
      rintro D xs W hD hens ⟨v, hv, hrow, hg, hsz, hB⟩ hK
      have hxl : xs.length = (goOn [] ((f : Int) - 1) 0).length := by rw [← hens, ensOf_len]
      have HTT : Hid ((decide (wh < s.length) || decide (xs.length < 0)) = t) := Lib.hid (by
        rw [← HT.out, hxl]
        by_cases hcase : wh < s.length ∨ (goOn [] ((f : Int) - 1) 0).length < 0
        · rw [decide_eq_true (HTI.out.1 hcase)]
          rcases hcase with h | h
          · rw [decide_eq_true h]; rfl
          · rw [decide_eq_true h]; simp
        · rw [decide_eq_false (fun h => hcase (HTI.out.2 h)), decide_eq_false (fun h => hcase (.inl h)), decide_eq_false (fun h => hcase (.inr h))]; rfl)
      obtain ⟨av, cv, rfl⟩ := own_slice hrow.own
      have HENS := Lib.hid hens
      have HROW := Lib.hid hrow
      have HV := Lib.hid hv
      have HB7 := Lib.hid hB
      have HG := Lib.hid hg
      have HK := Lib.hid hK
      have b0 := block_cell hv 0
      have b1 := block_cell hv 1
      have b2 := block_cell hv 2
      have y2 := block_loose hv 2
      have y0 := block_loose hg 0
      have y1 := block_loose hg 1
      have y22 := block_loose hg 2
      have v0 : ∀ tt, (W.setCell ⟨b, 2, none⟩ (.bool tt)).cell? ⟨b, 0, none⟩ = some (.int .i64 (f : Int)) := fun tt => block_cell (set_block hv 2 (.bool tt)) 0
      have v1 : ∀ tt, (W.setCell ⟨b, 2, none⟩ (.bool tt)).cell? ⟨b, 1, none⟩ = some (.slice av xs.length cv) := fun tt => block_cell (set_block hv 2 (.bool tt)) 1
      have v2 : ∀ tt, (W.setCell ⟨b, 2, none⟩ (.bool tt)).cell? ⟨b, 2, none⟩ = some (.bool tt) := fun tt => block_cell (set_block hv 2 (.bool tt)) 2
      have hgs : ∀ tt, (W.setCell ⟨b, 2, none⟩ (.bool tt)).heap[w.heap.size]? = some (segObj 0 (.slice none 0 0) false) := fun tt => (Below.heap_setCell _ _ _ _ (by show w.heap.size ≠ b; omega)).trans hg
      have q0 : ∀ tt, (W.setCell ⟨b, 2, none⟩ (.bool tt)).cell? ⟨w.heap.size, 0, none⟩ = some (.int .i64 0) := fun tt => block_cell (hgs tt) 0
      have q1 : ∀ tt, (W.setCell ⟨b, 2, none⟩ (.bool tt)).cell? ⟨w.heap.size, 1, none⟩ = some (.slice none 0 0) := fun tt => block_cell (hgs tt) 1
      have q2 : ∀ tt, (W.setCell ⟨b, 2, none⟩ (.bool tt)).cell? ⟨w.heap.size, 2, none⟩ = some (.bool false) := fun tt => block_cell (hgs tt) 2
      have f0 : ∀ tt, (W.setCell ⟨b, 2, none⟩ (.bool tt)).frozen? ⟨w.heap.size, 0, none⟩ = false := fun tt => block_loose (hgs tt) 0
      have f1 : ∀ tt, (W.setCell ⟨b, 2, none⟩ (.bool tt)).frozen? ⟨w.heap.size, 1, none⟩ = false := fun tt => block_loose (hgs tt) 1
      have f2 : ∀ tt, (W.setCell ⟨b, 2, none⟩ (.bool tt)).frozen? ⟨w.heap.size, 2, none⟩ = false := fun tt => block_loose (hgs tt) 2
      have HGS := Lib.hid hgs
      clear hgs
      simp only [List.getElem?_toArray, List.getElem?_cons_zero, List.getElem?_cons_succ] at b0 b1 b2
      have hDg : b < D := by omega
      clear hens hrow hv hB hg hK hxl y0 y1 y22
      by_cases h1 : wh < s.length
      · have h1i : (wh : Int) < (s.length : Int) := by omega
        have HTE := Lib.hid (show t = true by rw [← HTT.out, decide_eq_true h1]; rfl)
        gi_wp2
        have HEND := Lib.hid (load_end (w := w) (lim := b + 3) (f := (f : Int)) (v := .slice av xs.length cv) (xs := xs) (tt := true) (by omega) (Nat.le_refl _) hgb (by omega) (by omega) (HGS.out true) HROW.out HB7.out HK.out (.deferred none))
        refine ⟨by simp, .inl ⟨_, _, rfl, run_takeDeferred HEND.out.1, ?_⟩⟩
        have hend := HEND.out.2
        generalize (((((W.setCell ⟨b, 2, none⟩ (.bool true)).setCell ⟨w.heap.size, 0, none⟩ (.int .i64 (f : Int))).setCell ⟨w.heap.size, 1, none⟩ (.slice av xs.length cv)).setCell ⟨w.heap.size, 2, none⟩ (.bool true)).putObj D (.deferred none)) = E at hend ⊢
        obtain ⟨e1, e2, e3⟩ := hend
        have k0 := block_cell e1 0
        have k1 := block_cell e1 1
        have k2 := block_cell e1 2
        simp only [List.getElem?_toArray, List.getElem?_cons_zero, List.getElem?_cons_succ] at k0 k1 k2
        rw [HTE.out]
        exact ⟨.tuple #[.agg #[.int .i64 (f : Int), .slice av xs.length cv, .bool true], .int .i64 0], by simp [results, Tryz.results15, go_sem, k0, k1, k2], ⟨_, xs, rfl, HENS.out, e2⟩, e3⟩
      · have h1i : ¬ (wh : Int) < (s.length : Int) := by omega
        by_cases h2 : xs.length < 0
        · exact absurd h2 (Nat.not_lt_zero _)
        · have h2i : ¬ (xs.length : Int) < 0 := by omega
          have HTE := Lib.hid (show t = false by rw [← HTT.out, decide_eq_false h1, decide_eq_false h2]; rfl)
          gi_wp2
          have HEND := Lib.hid (load_end (w := w) (lim := b + 3) (f := (f : Int)) (v := .slice av xs.length cv) (xs := xs) (tt := false) (by omega) (Nat.le_refl _) hgb (by omega) (by omega) (HGS.out false) HROW.out HB7.out HK.out (.deferred none))
          refine ⟨by simp, .inl ⟨_, _, rfl, run_takeDeferred HEND.out.1, ?_⟩⟩
          have hend := HEND.out.2
          generalize (((((W.setCell ⟨b, 2, none⟩ (.bool false)).setCell ⟨w.heap.size, 0, none⟩ (.int .i64 (f : Int))).setCell ⟨w.heap.size, 1, none⟩ (.slice av xs.length cv)).setCell ⟨w.heap.size, 2, none⟩ (.bool false)).putObj D (.deferred none)) = E at hend ⊢
          obtain ⟨e1, e2, e3⟩ := hend
          have k0 := block_cell e1 0
          have k1 := block_cell e1 1
          have k2 := block_cell e1 2
          simp only [List.getElem?_toArray, List.getElem?_cons_zero, List.getElem?_cons_succ] at k0 k1 k2
          rw [HTE.out]
          exact ⟨.tuple #[.agg #[.int .i64 (f : Int), .slice av xs.length cv, .bool false], .int .i64 0], by simp [results, Tryz.results15, go_sem, k0, k1, k2], ⟨_, xs, rfl, HENS.out, e2⟩, e3⟩
  · gi_wp2_with fail
    refine ⟨trivial, (entries_in 8 (some ⟨g4, 1, none⟩) qs.length (cp - 1) (f : Int) _).mono ?_⟩
    rintro x w6 ⟨rfl, hw6⟩
    rw [World.size_alloc] at *
    obtain ⟨b, hbe⟩ : ∃ b, w5.heap.size = b := ⟨_, rfl⟩
    have hs6 : w6.heap.size = b + 3 := by rw [hw6, ← hbe]; simp
    have hal1 : Below w5.heap.size w5 (w5.alloc (.cells #[.int .i64 (f : Int), .slice none 0 0, .bool false] 38)) := (Below.refl _ w5).alloc (Nat.le_refl _) _
    have hal2 : Below (w5.alloc (.cells #[.int .i64 (f : Int), .slice none 0 0, .bool false] 38)).heap.size (w5.alloc (.cells #[.int .i64 (f : Int), .slice none 0 0, .bool false] 38)) w6 := by
      rw [hw6]; exact ((Below.refl _ _).alloc (Nat.le_refl _) _).alloc (by simp) _
    have h56 : Below w5.heap.size w5 w6 := hal1.trans (hal2.mono hal1.size)
    have HSB := Lib.hid (show w6.heap[b]? = some (segObj (f : Int) (.slice none 0 0) false) by
      rw [← hbe]; exact block_below (heap_alloc_new w5 _) hal2)
    have HBX2 := Lib.hid (show w6.cell? ⟨b + 1, 0, none⟩ = some (.slice (some ⟨g4, 1, none⟩) qs.length (cp - 1)) by
      have h1 := heap_alloc_new (w5.alloc (.cells #[.int .i64 (f : Int), .slice none 0 0, .bool false] 38)) (.cells #[.slice (some ⟨g4, 1, none⟩) qs.length (cp - 1)] 65)
      rw [World.size_alloc] at h1
      have h2 := block_below h1 (show Below _ _ (((w5.alloc (.cells #[.int .i64 (f : Int), .slice none 0 0, .bool false] 38)).alloc (.cells #[.slice (some ⟨g4, 1, none⟩) qs.length (cp - 1)] 65)).alloc (.cells #[.int .i64 (f : Int)] 3)) from (Below.refl _ _).alloc (Nat.le_refl _) _)
      rw [← hw6] at h2
      rw [← hbe]
      exact block_cell h2 0)
    have HBX1 := Lib.hid (show w6.cell? ⟨b + 1 + 1, 0, none⟩ = some (.int .i64 (f : Int)) by
      have h1 := heap_alloc_new ((w5.alloc (.cells #[.int .i64 (f : Int), .slice none 0 0, .bool false] 38)).alloc (.cells #[.slice (some ⟨g4, 1, none⟩) qs.length (cp - 1)] 65)) (.cells #[.int .i64 (f : Int)] 3)
      rw [World.size_alloc, World.size_alloc, ← hw6] at h1
      rw [← hbe]
      exact block_cell h1 0)
    have HB6 := Lib.hid (HB5.out.trans (h56.mono HB5.out.size))
    have HG6 := Lib.hid (block_below HG5.out h56)
    have hgb : w.heap.size < b := by
      have h1 := lt_of_block HG5.out
      omega
    have HFIX := Lib.hid (show FixAt b (b + 3) (b + 1 + 1) (b + 1) (f : Int) (.slice (some ⟨g4, 1, none⟩) qs.length (cp - 1)) qs w6 from
      ⟨by omega, by omega, fun k hk => by
        obtain ⟨off, n2, c2, hc⟩ := hk
        have := block_cell HSB.out 1
        rw [hc] at this
        simp at this, ⟨HBX1.out, by omega, by omega⟩, ⟨HBX2.out, by omega, by omega⟩, ⟨(some ⟨g4, 1, none⟩), (cp - 1), rfl, fun i h => ⟨g4, 1, rfl, by omega, by omega, below_keeps h56 _ _ (HCS5.out i h)⟩⟩⟩)
    clear hal1 hal2 h56 HB5 HG5 HCS5 HBX1 HBX2 hw6
    rw [hbe]
    gi_wp2_with fail
    refine range_yields rfl (by omega) (gf := 84) (lb := #[.pointer (some ⟨b + 1 + 1, 0, none⟩), .pointer (some ⟨b + 1, 0, none⟩)]) rfl trivial (enters_of Tryz.func84 (by kernel_rfl) rfl)
      (entries1_in 8 b (b + 3) (b + 1 + 1) (b + 1) f (.slice (some ⟨g4, 1, none⟩) qs.length (cp - 1)) qs w6 HFQ.out HQL.out (by omega) HFIX.out) (Below.refl _ _) (fun _ => rfl) ?hKp
      (LoadI w (b + 3) b w.heap.size (f : Int)) (by rw [hs6]; exact LoadI.own w (b + 3) b w.heap.size (f : Int) (by omega))
      ⟨_, HSB.out, RowX.nil _ _, HG6.out, by omega, HB6.out⟩ ?round ?done
    case hKp =>
      intro A B0 l2 o r2 hl2 hA2 hk2
      have hbl2 : b ≠ l2 := by omega
      refine ⟨by simpa using hk2.size, fun k cs t2 fr hk3 h3 h4 => ?_, fun k hh => ?_⟩
      · have hne : k ≠ l2 := fun e => by subst e; rw [hA2] at hk3; cases hk3
        rw [World.putObj_heap_other hne]
        exact hk2.same _ _ _ _ hk3 h3 h4
      · obtain ⟨off, n2, c2, hc2⟩ := hh
        have := hk2.low k ⟨off, n2, c2, cell_same hc2 (World.putObj_heap_other hbl2).symm⟩
        simpa using this
    case round =>
      rintro l2 pre ⟨⟨pos, ep, ⟨st, ex, se, sq, evs⟩⟩, u⟩ W hl2 ⟨r0, hr0⟩ ⟨v, hv, hrow, hg, hsz, hB⟩ ⟨hp, hrt, hev⟩ hlen
      dsimp only at hp hrt hev
      have hre := readsE_own hev
      obtain ⟨ua, uc, rfl, _⟩ := hre
      have hl3 := lt_of_block hr0
      gi_wp2
      refine ⟨(KeepsOthers.alloc _ _).from _, fun r hr r' => ?_⟩
      have hx2 : ((W.alloc (.cells #[.int .i64 pos, .int .i64 ep, .string (B st), .int .i64 ex, .int .i64 se, .int .i64 sq, .slice ua evs.length uc] 55)).putObj l2 (.loop r')).heap[W.heap.size]? = some (.cells #[.int .i64 pos, .int .i64 ep, .string (B st), .int .i64 ex, .int .i64 se, .int .i64 sq, .slice ua evs.length uc] 55 (0, 0)) := (World.putObj_heap_other (by omega)).trans (heap_alloc_new W _)
      have hB2 : Below w.heap.size w ((W.alloc (.cells #[.int .i64 pos, .int .i64 ep, .string (B st), .int .i64 ex, .int .i64 se, .int .i64 sq, .slice ua evs.length uc] 55)).putObj l2 (.loop r')) := (hB.alloc hB.size _).grown (grownBy_putObj' _ l2 _) (by have := hB.size; simp; omega) fun k e => by cases e; omega
      have hsame : ∀ k o, W.heap[k]? = some o → k ≠ l2 → ((W.alloc (.cells #[.int .i64 pos, .int .i64 ep, .string (B st), .int .i64 ex, .int .i64 se, .int .i64 sq, .slice ua evs.length uc] 55)).putObj l2 (.loop r')).heap[k]? = some o := fun k o hk hne => (World.putObj_heap_other hne).trans ((Below.heap_alloc _ _ _ (lt_of_block hk)).trans hk)
      have hsz2 : b + 3 ≤ ((W.alloc (.cells #[.int .i64 pos, .int .i64 ep, .string (B st), .int .i64 ex, .int .i64 se, .int .i64 sq, .slice ua evs.length uc] 55)).putObj l2 (.loop r')).heap.size := by simp; omega
      have hnl : ∀ k cs t2 fr, W.heap[k]? = some (.cells cs t2 fr) → k ≠ l2 := fun k cs t2 fr hk e => by subst e; rw [hr0] at hk; cases hk
      have hszW : W.heap.size ≤ ((W.alloc (.cells #[.int .i64 pos, .int .i64 ep, .string (B st), .int .i64 ex, .int .i64 se, .int .i64 sq, .slice ua evs.length uc] 55)).putObj l2 (.loop r')).heap.size := by simp
      generalize (W.alloc (.cells #[.int .i64 pos, .int .i64 ep, .string (B st), .int .i64 ex, .int .i64 se, .int .i64 sq, .slice ua evs.length uc] 55)).putObj l2 (.loop r') = W2 at *
      have hv2 := hsame b _ hv (by omega)
      have hg2 := hsame _ _ hg (by omega)
      have hrow2 : RowX (b + 3) v W2 pre := hrow.keep fun k cs t2 fr _ hk => (hsame k _ hk (hnl _ _ _ _ hk)).trans hk.symm
      have hev2 : W2.ownsRow (b + 3) 98 2 (.slice ua evs.length uc) evs.length (evCells evs) := own_cells hev fun k cs t2 fr _ hk => (hsame k _ hk (hnl _ _ _ _ hk)).trans hk.symm
      have HSAME := Lib.hid hsame
      have HNLL := Lib.hid hnl
      have HV := Lib.hid hv
      have HROW := Lib.hid hrow
      have HROW2 := Lib.hid hrow2
      have HEV2 := Lib.hid hev2
      have HV2 := Lib.hid hv2
      have HG2 := Lib.hid hg2
      have HB2 := Lib.hid hB2
      have b1 := block_cell hv2 1
      have x0 := block_cell hx2 0
      have x1 := block_cell hx2 1
      have x2 := block_cell hx2 2
      have x3 := block_cell hx2 3
      have x4 := block_cell hx2 4
      have x5 := block_cell hx2 5
      have x6 := block_cell hx2 6
      simp only [List.getElem?_toArray, List.getElem?_cons_zero, List.getElem?_cons_succ] at b1 x0 x1 x2 x3 x4 x5 x6
      have hprel : pre.length < 100000000 := by omega
      clear hsame hnl hv hrow hrow2 hev2 hv2 hg2 hB2 hx2 hB hg hev hr
      gi_wp2_with (gi_at_builtin; refine wpListIn_append_own _ rfl _ _ 33 rfl (b + 3) 55 i0 _ 7 80 Tryz.underlying33 hi hz0 hz1 hz2 rfl (by decide) _ _ _ rfl (HROW2.out.own.alloc _) ⟨W2.heap.size, 0, none⟩ 1 1 [.int .i64 pos, .int .i64 ep, .string (B st), .int .i64 ex, .int .i64 se, .int .i64 sq, .slice ua evs.length uc] rfl rfl (World.news_of_block (cs := #[.int .i64 pos, .int .i64 ep, .string (B st), .int .i64 ex, .int .i64 se, .int .i64 sq, .slice ua evs.length uc]) (t := 55) (fr := (0, 0)) (heap_alloc_new W2 _)) (by simp [Value.oneCell']) (by unfold maxLen; omega) (by omega) (by simp; omega) ?_; intro v' w9 hown9 hgrow9 _; obtain ⟨g', cap', rfl⟩ := ownsRow_succ hown9; have HST := Lib.hid (load_step (w := w) (f := (f : Int)) (e := ⟨pos, ep, ⟨st, ex, se, sq, evs⟩⟩) (by omega) (Nat.le_refl _) hgb HV2.out HROW2.out HG2.out hsz2 HB2.out hp hrt HEV2.out hown9 hgrow9); have y1 := block_loose HST.out.2.2.2.2 1; have z1 := block_cell HST.out.2.2.2.2 1)
      obtain ⟨s1, s2, s3, s4, s5⟩ := HST.out
      refine ⟨⟨s4, fun k o hk1 hk2 hk3 => s2 k o hk2 (fun e => ?_) (fun e => ?_)⟩, ⟨Nat.le_trans hszW s4, fun k cs t2 fr hk h3 h4 => ?_, s3⟩, s1⟩
      · subst e
        rw [HV2.out] at hk2
        cases hk2
        cases hk3
      · obtain ⟨_, _, cs, hcs⟩ := own_lt HROW2.out.own e
        rw [hcs] at hk2
        cases hk2
        cases hk3
      · rw [hk]
        refine s2 k _ (HSAME.out k _ hk (HNLL.out _ _ _ _ hk)) h3 (fun e => h4 ?_)
        obtain ⟨c2, hc2⟩ := own_form HROW2.out.own e
        exact ⟨0, pre.length, c2, by rw [block_cell HV.out 1, hc2]; rfl⟩
    case done =>
      rintro D xs W hD hens ⟨v, hv, hrow, hg, hsz, hB⟩ hK
      have hxl : xs.length = (goOn qs ((f : Int) - 1) 0).length := by rw [← hens, ensOf_len]
      have HTT : Hid ((decide (wh < s.length) || decide (xs.length < qs.length)) = t) := Lib.hid (by
        rw [← HT.out, hxl]
        by_cases hcase : wh < s.length ∨ (goOn qs ((f : Int) - 1) 0).length < qs.length
        · rw [decide_eq_true (HTI.out.1 hcase)]
          rcases hcase with h | h
          · rw [decide_eq_true h]; rfl
          · rw [decide_eq_true h]; simp
        · rw [decide_eq_false (fun h => hcase (HTI.out.2 h)), decide_eq_false (fun h => hcase (.inl h)), decide_eq_false (fun h => hcase (.inr h))]; rfl)
      obtain ⟨av, cv, rfl⟩ := own_slice hrow.own
      have HENS := Lib.hid hens
      have HROW := Lib.hid hrow
      have HV := Lib.hid hv
      have HB7 := Lib.hid hB
      have HG := Lib.hid hg
      have HK := Lib.hid hK
      have b0 := block_cell hv 0
      have b1 := block_cell hv 1
      have b2 := block_cell hv 2
      have y2 := block_loose hv 2
      have y0 := block_loose hg 0
      have y1 := block_loose hg 1
      have y22 := block_loose hg 2
      have v0 : ∀ tt, (W.setCell ⟨b, 2, none⟩ (.bool tt)).cell? ⟨b, 0, none⟩ = some (.int .i64 (f : Int)) := fun tt => block_cell (set_block hv 2 (.bool tt)) 0
      have v1 : ∀ tt, (W.setCell ⟨b, 2, none⟩ (.bool tt)).cell? ⟨b, 1, none⟩ = some (.slice av xs.length cv) := fun tt => block_cell (set_block hv 2 (.bool tt)) 1
      have v2 : ∀ tt, (W.setCell ⟨b, 2, none⟩ (.bool tt)).cell? ⟨b, 2, none⟩ = some (.bool tt) := fun tt => block_cell (set_block hv 2 (.bool tt)) 2
      have hgs : ∀ tt, (W.setCell ⟨b, 2, none⟩ (.bool tt)).heap[w.heap.size]? = some (segObj 0 (.slice none 0 0) false) := fun tt => (Below.heap_setCell _ _ _ _ (by show w.heap.size ≠ b; omega)).trans hg
      have q0 : ∀ tt, (W.setCell ⟨b, 2, none⟩ (.bool tt)).cell? ⟨w.heap.size, 0, none⟩ = some (.int .i64 0) := fun tt => block_cell (hgs tt) 0
      have q1 : ∀ tt, (W.setCell ⟨b, 2, none⟩ (.bool tt)).cell? ⟨w.heap.size, 1, none⟩ = some (.slice none 0 0) := fun tt => block_cell (hgs tt) 1
      have q2 : ∀ tt, (W.setCell ⟨b, 2, none⟩ (.bool tt)).cell? ⟨w.heap.size, 2, none⟩ = some (.bool false) := fun tt => block_cell (hgs tt) 2
      have f0 : ∀ tt, (W.setCell ⟨b, 2, none⟩ (.bool tt)).frozen? ⟨w.heap.size, 0, none⟩ = false := fun tt => block_loose (hgs tt) 0
      have f1 : ∀ tt, (W.setCell ⟨b, 2, none⟩ (.bool tt)).frozen? ⟨w.heap.size, 1, none⟩ = false := fun tt => block_loose (hgs tt) 1
      have f2 : ∀ tt, (W.setCell ⟨b, 2, none⟩ (.bool tt)).frozen? ⟨w.heap.size, 2, none⟩ = false := fun tt => block_loose (hgs tt) 2
      have HGS := Lib.hid hgs
      clear hgs
      simp only [List.getElem?_toArray, List.getElem?_cons_zero, List.getElem?_cons_succ] at b0 b1 b2
      have hDg : b < D := by omega
      clear hens hrow hv hB hg hK hxl y0 y1 y22
      by_cases h1 : wh < s.length
      · have h1i : (wh : Int) < (s.length : Int) := by omega
        have HTE := Lib.hid (show t = true by rw [← HTT.out, decide_eq_true h1]; rfl)
        gi_wp2
        have HEND := Lib.hid (load_end (w := w) (lim := b + 3) (f := (f : Int)) (v := .slice av xs.length cv) (xs := xs) (tt := true) (by omega) (Nat.le_refl _) hgb (by omega) (by omega) (HGS.out true) HROW.out HB7.out HK.out (.deferred none))
        refine ⟨by simp, .inl ⟨_, _, rfl, run_takeDeferred HEND.out.1, ?_⟩⟩
        have hend := HEND.out.2
        generalize (((((W.setCell ⟨b, 2, none⟩ (.bool true)).setCell ⟨w.heap.size, 0, none⟩ (.int .i64 (f : Int))).setCell ⟨w.heap.size, 1, none⟩ (.slice av xs.length cv)).setCell ⟨w.heap.size, 2, none⟩ (.bool true)).putObj D (.deferred none)) = E at hend ⊢
        obtain ⟨e1, e2, e3⟩ := hend
        have k0 := block_cell e1 0
        have k1 := block_cell e1 1
        have k2 := block_cell e1 2
        simp only [List.getElem?_toArray, List.getElem?_cons_zero, List.getElem?_cons_succ] at k0 k1 k2
        rw [HTE.out]
        exact ⟨.tuple #[.agg #[.int .i64 (f : Int), .slice av xs.length cv, .bool true], .int .i64 0], by simp [results, Tryz.results15, go_sem, k0, k1, k2], ⟨_, xs, rfl, HENS.out, e2⟩, e3⟩
      · have h1i : ¬ (wh : Int) < (s.length : Int) := by omega
        by_cases h2 : xs.length < qs.length
        · have h2i : (xs.length : Int) < (qs.length : Int) := by omega
          have HTE := Lib.hid (show t = true by rw [← HTT.out, decide_eq_false h1, decide_eq_true h2]; rfl)
          gi_wp2
          have HEND := Lib.hid (load_end (w := w) (lim := b + 3) (f := (f : Int)) (v := .slice av xs.length cv) (xs := xs) (tt := true) (by omega) (Nat.le_refl _) hgb (by omega) (by omega) (HGS.out true) HROW.out HB7.out HK.out (.deferred none))
          refine ⟨by simp, .inl ⟨_, _, rfl, run_takeDeferred HEND.out.1, ?_⟩⟩
          have hend := HEND.out.2
          generalize (((((W.setCell ⟨b, 2, none⟩ (.bool true)).setCell ⟨w.heap.size, 0, none⟩ (.int .i64 (f : Int))).setCell ⟨w.heap.size, 1, none⟩ (.slice av xs.length cv)).setCell ⟨w.heap.size, 2, none⟩ (.bool true)).putObj D (.deferred none)) = E at hend ⊢
          obtain ⟨e1, e2, e3⟩ := hend
          have k0 := block_cell e1 0
          have k1 := block_cell e1 1
          have k2 := block_cell e1 2
          simp only [List.getElem?_toArray, List.getElem?_cons_zero, List.getElem?_cons_succ] at k0 k1 k2
          rw [HTE.out]
          exact ⟨.tuple #[.agg #[.int .i64 (f : Int), .slice av xs.length cv, .bool true], .int .i64 0], by simp [results, Tryz.results15, go_sem, k0, k1, k2], ⟨_, xs, rfl, HENS.out, e2⟩, e3⟩
        · have h2i : ¬ (xs.length : Int) < (qs.length : Int) := by omega
          have HTE := Lib.hid (show t = false by rw [← HTT.out, decide_eq_false h1, decide_eq_false h2]; rfl)
          gi_wp2
          have HEND := Lib.hid (load_end (w := w) (lim := b + 3) (f := (f : Int)) (v := .slice av xs.length cv) (xs := xs) (tt := false) (by omega) (Nat.le_refl _) hgb (by omega) (by omega) (HGS.out false) HROW.out HB7.out HK.out (.deferred none))
          refine ⟨by simp, .inl ⟨_, _, rfl, run_takeDeferred HEND.out.1, ?_⟩⟩
          have hend := HEND.out.2
          generalize (((((W.setCell ⟨b, 2, none⟩ (.bool false)).setCell ⟨w.heap.size, 0, none⟩ (.int .i64 (f : Int))).setCell ⟨w.heap.size, 1, none⟩ (.slice av xs.length cv)).setCell ⟨w.heap.size, 2, none⟩ (.bool false)).putObj D (.deferred none)) = E at hend ⊢
          obtain ⟨e1, e2, e3⟩ := hend
          have k0 := block_cell e1 0
          have k1 := block_cell e1 1
          have k2 := block_cell e1 2
          simp only [List.getElem?_toArray, List.getElem?_cons_zero, List.getElem?_cons_succ] at k0 k1 k2
          rw [HTE.out]
          exact ⟨.tuple #[.agg #[.int .i64 (f : Int), .slice av xs.length cv, .bool false], .int .i64 0], by simp [results, Tryz.results15, go_sem, k0, k1, k2], ⟨_, xs, rfl, HENS.out, e2⟩, e3⟩
end Go.Proofs.YtpdnbpihkiijkaaGreatDoor.G

/-
  The segment package: upTo, and the library's IndexFunc at entries.
-/
namespace Go.Proofs.YtpdnbpihkiijkaaGreatDoor.G
open Go.RowKit
open D (dP)
attribute [local go_sem] ext_Bd ext_Bl ext_Bt toList_B add_B size_B get_Bt

set_option maxRecDepth 100000 in
set_option maxHeartbeats 1000000 in
theorem upTo1_l (e : R.En) (u : Value) (g : Nat) (last : Int) (w : World) (hu : ∃ a n c, u = .slice a n c) (hc : w.cell? ⟨g, 0, none⟩ = some (.int .i64 last)) :
    Calls Tryz.prog 103 #[enV e u, .pointer (some ⟨g, 0, none⟩)] w fun x w' => x = .returned (.bool (decide (last < e.pos))) ∧ Below w.heap.size w w' := by
  obtain ⟨pos, ep, ⟨st, ex, se, sq, evs⟩⟩ := e
  obtain ⟨ua, un, uc, rfl⟩ := hu
  have hc2 : ∀ o, (w.alloc o).cell? ⟨g, 0, none⟩ = some (.int .i64 last) := fun o => below_keeps ((Below.refl _ w).alloc (Nat.le_refl _) o) _ _ hc
  have hB := (Below.refl w.heap.size w).alloc (Nat.le_refl _) (.cells #[.int .i64 pos, .int .i64 ep, .string (B st), .int .i64 ex, .int .i64 se, .int .i64 sq, .slice ua un uc] 55)
  have HB := Lib.hid hB
  clear hB
  by_cases h : last < pos
  · go_enter Tryz.func103, Tryz.ntmps103
    go_wp2
    go_ret
    exact ⟨by simp [h], HB.out⟩
  · go_enter Tryz.func103, Tryz.ntmps103
    go_wp2
    go_ret
    exact ⟨by simp [h], HB.out⟩

set_option maxRecDepth 100000 in
set_option maxHeartbeats 2000000 in
theorem index_run (es : List EV) (v : Value) (g : Nat) (last : Int) (w : World) (hl : es.length ≤ 100000000) (hv : ReadsR w v es) (hc : w.cell? ⟨g, 0, none⟩ = some (.int .i64 last)) :
    Calls Tryz.prog 104 #[v, .func (.func 103) #[] #[.pointer (some ⟨g, 0, none⟩)]] w fun x w' =>
      ((∃ k : Nat, x = .returned (.int .i64 (k : Int)) ∧ ∃ h : k < es.length, last < es[k].1.pos ∧ ∀ i (h : i < es.length), i < k → es[i].1.pos ≤ last) ∨ (x = .returned (.int .i64 (-1)) ∧ ∀ i (h : i < es.length), es[i].1.pos ≤ last)) ∧ Below w.heap.size w w' := by
  have HV := Lib.hid hv
  have HC := Lib.hid hc
  obtain ⟨a, cap, rfl, _⟩ := hv
  clear hc
  go_enter Tryz.func104, Tryz.ntmps104
  go_wp2
  go_loopw [8] (fun i wr => ∃ k : Nat, i = .int .i64 k ∧ k ≤ es.length ∧ Hid (Below w.heap.size w wr) ∧ Hid (∀ i (h : i < es.length), i < k → es[i].1.pos ≤ last)) (fun i _ => es.length - (intOf i).toNat)
  case atStart => exact ⟨0, rfl, Nat.zero_le _, Lib.hid (Below.refl _ _), Lib.hid fun i _ hi => absurd hi (Nat.not_lt_zero _)⟩
  case round =>
    obtain ⟨k, rfl, hk, HB, HALL⟩ := hrel
    by_cases hlt : k < es.length
    · obtain ⟨a2, cap2, hve, _, _, hx⟩ := readsR_below HV.out HB.out
      cases hve
      obtain ⟨hre, -, b1, o1, rfl, h7⟩ := hx k hlt
      have hi1 : (k : Int) < (es.length : Int) := by omega
      obtain ⟨ea, en, ec, hu⟩ := readsE_form hre
      have HCL := Lib.hid (upTo1_l es[k].1 es[k].2 g last wr ⟨ea, en, ec, hu⟩ (below_keeps HB.out _ _ HC.out))
      have HNEXT := Lib.hid (show es[k].1.pos ≤ last → ∀ i (h : i < es.length), i < k + 1 → es[i].1.pos ≤ last from fun h0 i h hi => by
        rcases Nat.lt_succ_iff_lt_or_eq.1 hi with h2 | rfl
        · exact HALL.out i h h2
        · exact h0)
      have HHIT := Lib.hid (show last < es[k].1.pos → ∃ h : k < es.length, last < es[k].1.pos ∧ ∀ i (h : i < es.length), i < k → es[i].1.pos ≤ last from fun h0 => ⟨hlt, h0, HALL.out⟩)
      clear hre hx
      generalize es[k] = pe at *
      obtain ⟨e, u⟩ := pe
      dsimp only at h7 hu HCL HNEXT HHIT
      subst hu
      obtain ⟨c0, c1, c2, c3, c4, c5, c6⟩ := h7
      by_cases hp : last < e.pos
      · have HH := Lib.hid (HHIT.out hp)
        rw [decide_eq_true hp] at HCL
        clear hp HNEXT HHIT
        go_wp2_with fail
        refine HCL.out.mono ?_
        rintro x w2 ⟨rfl, hb2⟩
        go_wp2
        go_ret
        exact ⟨.inl ⟨k, rfl, HH.out⟩, HB.out.trans (hb2.mono HB.out.size)⟩
      · have HH := Lib.hid (HNEXT.out (by omega))
        rw [decide_eq_false hp] at HCL
        clear hp HNEXT HHIT
        go_wp2_with fail
        refine HCL.out.mono ?_
        rintro x w2 ⟨rfl, hb2⟩
        have HB2 := Lib.hid (HB.out.trans (hb2.mono HB.out.size))
        clear hb2
        go_wp2
        go_roundw
        case rel => exact ⟨k + 1, by go_num, by omega, HB2, HH⟩
        case measure => simp [intOf]; omega
    · have HE := Lib.hid (show ∀ i (h : i < es.length), es[i].1.pos ≤ last from fun i h => HALL.out i h (by omega))
      go_wp2
      go_ret
      exact ⟨.inr ⟨rfl, HE.out⟩, HB.out⟩
end Go.Proofs.YtpdnbpihkiijkaaGreatDoor.G

/-
  The segment package: upTo, bodyOf.
-/
namespace Go.Proofs.YtpdnbpihkiijkaaGreatDoor.G
open Go.RowKit
open D (dP)
attribute [local go_sem] ext_Bd ext_Bl ext_Bt toList_B add_B size_B get_Bt

theorem ensOf_take (es : List EV) (k : Nat) : ensOf (es.take k) = (ensOf es).take k := by simp [ensOf, List.map_take]
set_option maxRecDepth 100000 in
set_option maxHeartbeats 1000000 in
theorem upTo_l (es : List EV) (a : Option Addr) (cap : Nat) (last : Int) (w : World) (hl : es.length ≤ 100000000) (hv : ReadsR w (.slice a es.length cap) es) :
    Calls Tryz.prog 72 #[.slice a es.length cap, .int .i64 last] w fun x w' => (∃ k, x = .returned (.slice a k cap) ∧ k ≤ es.length ∧ upto last (ensOf es) = ensOf (es.take k)) ∧ Below w.heap.size w w' := by
  have hmf : ∀ fn first cap w, (Instr.makeFunc fn first cap).run Tryz.prog w = .ok (.func fn first cap) w := fun _ _ _ _ => rfl
  have HB0 := Lib.hid ((Below.refl w.heap.size w).alloc (Nat.le_refl _) (.cells #[.int .i64 last] 3))
  have HC0 := Lib.hid (show (w.alloc (.cells #[.int .i64 last] 3)).cell? ⟨w.heap.size, 0, none⟩ = some (.int .i64 last) by rw [World.cell?_alloc_new]; rfl)
  have HV := Lib.hid (readsR_below hv HB0.out)
  have hcap : es.length ≤ cap := by
    obtain ⟨a2, c2, hve, hc, _, _⟩ := hv
    cases hve
    exact hc
  have hlen : (ensOf es).length = es.length := ensOf_len es
  go_enter Tryz.func72, Tryz.ntmps72
  go_wp2_with fail
  generalize w.alloc (.cells #[.int .i64 last] 3) = W at *
  refine (index_run es _ w.heap.size last W hl HV.out HC0.out).mono ?_
  rintro x w1 ⟨(⟨k, rfl, hk, h1, h2⟩ | ⟨rfl, h2⟩), hb1⟩
  · have HB1 := Lib.hid (HB0.out.trans (hb1.mono HB0.out.size))
    have HU := Lib.hid (show upto last (ensOf es) = ensOf (es.take k) by
      rw [ensOf_take]
      exact upto_of (by omega) (fun i h hi => by simpa [ensOf] using h2 i (by omega) hi) (fun h => by simpa [ensOf] using h1))
    have hk0 : (0 : Int) ≤ (k : Int) := by omega
    have hk1 : (k : Int) ≤ (cap : Int) := by omega
    clear hb1 h1 h2 HV HB0 hlen
    go_wp2
    go_ret
    exact ⟨⟨k, rfl, Nat.le_of_lt hk, HU.out⟩, HB1.out⟩
  · have HB1 := Lib.hid (HB0.out.trans (hb1.mono HB0.out.size))
    have HU := Lib.hid (show upto last (ensOf es) = ensOf (es.take es.length) by
      rw [ensOf_take]
      exact upto_of (by omega) (fun i h hi => by simpa [ensOf] using h2 i hi) (fun h => absurd h (by omega)))
    clear hb1 h2 HV HB0 hlen
    go_wp2
    go_ret
    exact ⟨⟨es.length, rfl, Nat.le_refl _, HU.out⟩, HB1.out⟩

theorem grown0 {w w' : World} (h : w.grownBy w' none) : Below w.heap.size w w' := ⟨h.os, h.tape, h.output, h.size, fun k hk => h.block k hk (by simp)⟩
theorem pays_snoc (l : List EV) (p : EV) : strCells ((ensOf (l ++ [p])).map pay) = strCells ((ensOf l).map pay) ++ [.string (B (pay p.1))] := by simp [ensOf, strCells]
set_option maxRecDepth 100000 in
set_option maxHeartbeats 4000000 in
theorem bodyOf_l (es : List EV) (v : Value) (w : World) (hl : es.length ≤ 100000000) (hv : ReadsR w v es) (hr : ∀ p ∈ es, R.right p.1 = true) :
    Calls Tryz.prog 66 #[v] w fun x w' => (∃ va, x = .returned va ∧ w'.ownsRow w.heap.size 9 1 va es.length (strCells ((ensOf es).map pay))) ∧ Below w.heap.size w w' := by
  obtain ⟨i0, hi, hz0, hz1, hz2⟩ := info_parts Tryz.infoStr
  have HV := Lib.hid hv
  have HR := Lib.hid hr
  obtain ⟨a, cap, rfl, _⟩ := hv
  clear hr
  go_enter Tryz.func66, Tryz.ntmps66
  go_wp2_with (at_make; refine wpList_make_own _ rfl _ _ 65 rfl w.heap.size 9 i0 (.string ⟨#[]⟩) 1 Tryz.underlying65 hi hz0 hz1 .i64 .i64 _ es.length rfl rfl rfl (by rw [hz2]; omega) (by unfold maxLen; omega) (Nat.le_refl _) ?_; intro w9 hown9 hgrow9; have HB9 := Lib.hid (grown0 hgrow9); have HO9 := Lib.hid hown9; clear hgrow9 hown9)
  go_loopw [3, 11] (fun b i wr => ∃ (k : Nat) (vb : Value), b = vb ∧ i = .int .i64 k ∧ k ≤ es.length ∧ Hid (wr.ownsRow w.heap.size 9 1 vb k (strCells ((ensOf (es.take k)).map pay))) ∧ Hid (Below w.heap.size w wr)) (fun _ i _ => es.length - (intOf i).toNat)
  case atStart => exact ⟨0, _, rfl, rfl, Nat.zero_le _, HO9, HB9⟩
  case round =>
    obtain ⟨k, vb, rfl, rfl, hk, HO, HB⟩ := hrel
    by_cases hlt : k < es.length
    · obtain ⟨a2, cap2, hve, _, _, hx⟩ := readsR_below HV.out HB.out
      cases hve
      obtain ⟨hre, hpos, b1, o1, rfl, h7⟩ := hx k hlt
      have hi1 : (k : Int) < (es.length : Int) := by omega
      have hrt := HR.out es[k] (List.getElem_mem hlt)
      have HSM := Lib.hid (en_right_small hrt)
      have HPE := Lib.hid (R.putEn_ok hrt)
      have hsz := en_small hrt
      have HSN := Lib.hid (show strCells ((ensOf (es.take (k + 1))).map pay) = strCells ((ensOf (es.take k)).map pay) ++ [.string (B (pay es[k].1))] by
        rw [List.take_succ_eq_append_getElem hlt, pays_snoc])
      clear hx hrt
      generalize es[k] = pe at *
      obtain ⟨⟨pos, ep, ⟨st, ex, se, sq, evs⟩⟩, u⟩ := pe
      dsimp only at h7 hre HSN HSM HPE hsz
      obtain ⟨ea, ec, rfl, _⟩ := id hre
      obtain ⟨bs, hbs⟩ : ∃ bs, R.bytes (⟨pos, ep, ⟨st, ex, se, sq, evs⟩⟩ : R.En) = bs := ⟨_, rfl⟩
      rw [hbs] at HPE hsz
      have HPAY := Lib.hid (show pay (⟨pos, ep, ⟨st, ex, se, sq, evs⟩⟩ : R.En) = 101 :: bs by unfold pay; rw [hbs])
      rw [HPAY.out] at HSN
      obtain ⟨c0, c1, c2, c3, c4, c5, c6⟩ := h7
      have HAL := Lib.hid (show Below wr.heap.size wr (wr.alloc (.cells #[.int .i64 pos, .int .i64 ep, .string (B st), .int .i64 ex, .int .i64 se, .int .i64 sq, .slice ea evs.length ec] 55)) from (Below.refl _ wr).alloc (Nat.le_refl _) _)
      have HRE := Lib.hid (readsE_below hre HAL.out)
      clear hre hbs HPAY
      go_wp2_with fail
      refine (Put6_at (⟨pos, ep, ⟨st, ex, se, sq, evs⟩⟩ : R.En) (.slice ea evs.length ec) bs _ HRE.out HSM.out HPE).mono ?_
      rintro x w2 ⟨rfl, hb2⟩
      have HB2 := Lib.hid (HB.out.trans ((HAL.out.trans (hb2.mono HAL.out.size)).mono HB.out.size))
      have HO2 := Lib.hid (own_below (own_below HO.out HAL.out) hb2)
      clear hb2
      go_wp2_with (at_builtin; refine wpList_append_own _ rfl _ _ 65 rfl w.heap.size 9 i0 (.string ⟨#[]⟩) 1 16 Tryz.underlying65 hi hz0 hz1 hz2 rfl (by decide) _ _ _ rfl (HO2.out.alloc _) ⟨w2.heap.size, 0, none⟩ 1 1 [.string (B (101 :: bs))] rfl rfl (cell_one_new _ _ _) (by intro u hu; simp at hu; subst hu; rfl) (by unfold maxLen; omega) (by omega) (by have := HB2.out.size; simp; omega) ?_; intro v' w3 hown3 hgrow3 _; have HB3 := Lib.hid (below_grown HB2.out HB2.out.size HO2.out hgrow3); have HO3 := Lib.hid hown3; clear hown3 hgrow3)
      rw [← HSN.out] at HO3
      go_wp2
      go_roundw
      case rel => exact ⟨k + 1, v', rfl, by go_num, by omega, HO3, HB3⟩
      case measure => simp [intOf]; omega
    · have HT := Lib.hid (show es.take k = es from List.take_of_length_le (by omega))
      have hke : k = es.length := by omega
      have HKE := Lib.hid hke
      rw [HT.out] at HO
      clear hke HT
      go_wp2
      go_ret
      rw [← HKE.out]
      exact ⟨⟨_, rfl, HO.out⟩, HB.out⟩
end Go.Proofs.YtpdnbpihkiijkaaGreatDoor.G

/-
  The segment package: goesOn, isThere, extend, write.
-/
namespace Go.Proofs.YtpdnbpihkiijkaaGreatDoor.G
open Go.RowKit
open D (dP)
attribute [local go_sem] ext_Bd ext_Bl ext_Bt toList_B add_B size_B get_Bt

theorem lastP_at {es : List EV} {k : Nat} (h : es.length = k + 1) (p : Int) : R.lastP (ensOf es) p = (es[k]'(by omega)).1.pos := by
  unfold R.lastP
  have hl : (ensOf es).length = k + 1 := by rw [ensOf_len]; exact h
  rw [List.getLast?_eq_getElem?, hl, List.getElem?_eq_getElem (by omega)]
  simp [ensOf]
theorem lastQ_at {es : List EV} {k : Nat} (h : es.length = k + 1) (p : Int) : R.lastQ (ensOf es) p = (es[k]'(by omega)).1.epoch := by
  unfold R.lastQ
  have hl : (ensOf es).length = k + 1 := by rw [ensOf_len]; exact h
  rw [List.getLast?_eq_getElem?, hl, List.getElem?_eq_getElem (by omega)]
  simp [ensOf]
set_option maxRecDepth 100000 in
set_option maxHeartbeats 2000000 in
theorem goesOn_l (f : Nat) (xs : List EV) (v : Value) (t : Bool) (es : List EV) (vl : Value) (r : Bool) (w : World) (hf : 1 ≤ f ∧ f ≤ far) (hx : ReadsR w v xs) (hv : ReadsR w vl es) (hxl : xs.length ≤ 100000000) (hl : es.length ≤ 1000) (hs : ∀ x ∈ es, E.Small x.1.b) (H : R.follows (ensOf es) (R.lastP (ensOf xs) ((f : Int) - 1)) (R.lastQ (ensOf xs) 0) = r) :
    Calls Tryz.prog 64 #[.agg #[.int .i64 (f : Int), v, .bool t], vl] w fun x w' => x = .returned (.bool r) ∧ Below w.heap.size w w' := by
  have hff : (f : Int) ≤ 274877906944 := by have := hf.2; unfold far at this; omega
  have hf1 : (1 : Int) ≤ (f : Int) := by omega
  obtain ⟨a, cap, rfl, _, _, hxx⟩ := id hx
  have hal : Below w.heap.size w (w.alloc (.cells #[.int .i64 (f : Int), .slice a xs.length cap, .bool t] 38)) := (Below.refl _ w).alloc (Nat.le_refl _) _
  have HAL := Lib.hid hal
  have HV0 := Lib.hid hv
  by_cases h0 : xs.length = 0
  · have hxe : xs = [] := List.length_eq_zero_iff.1 h0
    subst hxe
    have HF := Lib.hid (Follows_at es vl ((f : Int) - 1) 0 r _ (readsR_below hv hal) hl hs (by unfold i64B; omega) (Lib.hid H))
    clear hx hv hxx hal H h0 hs
    go_enter Tryz.func64, Tryz.ntmps64
    go_wp2_with fail
    refine HF.out.mono ?_
    rintro x w1 ⟨rfl, hb1⟩
    go_wp2
    go_ret
    exact ⟨rfl, HAL.out.trans (hb1.mono HAL.out.size)⟩
  · obtain ⟨k, hk⟩ : ∃ k, xs.length = k + 1 := ⟨xs.length - 1, by omega⟩
    obtain ⟨hre, hpos, b1, o1, rfl, h7⟩ := hxx k (by omega)
    rw [lastP_at hk, lastQ_at hk] at H
    rw [hk] at hal
    have h7b := h7.keep (below_keeps hal)
    generalize xs[k] = pe at *
    obtain ⟨⟨pos, ep, ⟨st, ex, se, sq, evs⟩⟩, u⟩ := pe
    dsimp only at h7b hre H hpos
    obtain ⟨ea, ec, rfl, _⟩ := id hre
    obtain ⟨c0, c1, c2, c3, c4, c5, c6⟩ := h7b
    clear hxx hx HAL h7
    rw [hk]
    have hkb : k ≤ 100000000 := by omega
    have hi0 : (((k : Int) + 1) == 0) = false := beq_eq_false_iff_ne.2 (by omega)
    clear hxl hk h0
    have hal2 : Below w.heap.size w ((w.alloc (.cells #[.int .i64 (f : Int), .slice (some ⟨b1, o1, none⟩) (k + 1) cap, .bool t] 38)).alloc (.cells #[.int .i64 pos, .int .i64 ep, .string (B st), .int .i64 ex, .int .i64 se, .int .i64 sq, .slice ea evs.length ec] 55)) := hal.alloc hal.size _
    have HAL2 := Lib.hid hal2
    have HF := Lib.hid (Follows_at es vl pos ep r _ (readsR_below hv hal2) hl hs hpos (Lib.hid H))
    clear hv hal hal2 H hs hre
    go_enter Tryz.func64, Tryz.ntmps64
    go_wp2_with fail
    refine HF.out.mono ?_
    rintro x w1 ⟨rfl, hb1⟩
    go_wp2
    go_ret
    exact ⟨rfl, HAL2.out.trans (hb1.mono HAL2.out.size)⟩
end Go.Proofs.YtpdnbpihkiijkaaGreatDoor.G

/-
  The segment package: isThere, extend, write.
-/
namespace Go.Proofs.YtpdnbpihkiijkaaGreatDoor.G
open Go.RowKit
open D (dP)
attribute [local go_sem] ext_Bd ext_Bl ext_Bt toList_B add_B size_B get_Bt

set_option maxRecDepth 100000 in
theorem isThere_l (C : D.DC) {bs : Nat} {w : World} {p room : Nat} {l : List D.F} {S : Nat → Prop} (nm : Tx) (r : Bool) (hA : C.At bs w p room l S) (hI : D.Inv room l) (hroom : room ≤ 100000000) (hnm : nm.length ≤ 14) (H : (D.find nm l).isSome = r) :
    Calls Tryz.prog 61 #[dP p, .string (B nm)] w fun x w' => x = .returned (.bool r) ∧ Below w.heap.size w w' := by
  cases hf : D.find nm l with
  | none =>
    have HRD := Lib.hid (C.read nm [] 6 hA hI (by omega) (by omega) (by unfold D.read; rw [hf]))
    have HR : Hid (r = false) := Lib.hid (by rw [← H, hf]; rfl)
    clear H hf hA hI
    go_enter Tryz.func61, Tryz.ntmps61
    go_wp2_with fail
    refine HRD.out.mono ?_
    rintro x w1 ⟨rfl, hb⟩
    go_wp2
    go_ret
    rw [HR.out]
    exact ⟨rfl, hb⟩
  | some f =>
    have HRD := Lib.hid (C.read nm f.data 0 hA hI (by omega) (by omega) (by unfold D.read; rw [hf]))
    have HR : Hid (r = true) := Lib.hid (by rw [← H, hf]; rfl)
    clear H hf hA hI
    go_enter Tryz.func61, Tryz.ntmps61
    go_wp2_with fail
    refine HRD.out.mono ?_
    rintro x w1 ⟨rfl, hb⟩
    go_wp2
    go_ret
    rw [HR.out]
    exact ⟨rfl, hb⟩

/-- Bytes behind a file's, synced: the error, and the files. -/
def extD (room : Nat) (nm s : Tx) (l : List D.F) : Nat × List D.F :=
  if (D.append room nm s l).1 = 0 then D.sync nm (D.append room nm s l).2 else ((D.append room nm s l).1, l)
theorem sync_ok {room : Nat} {nm s : Tx} {l : List D.F} (h : (D.append room nm s l).1 = 0) : (D.sync nm (D.append room nm s l).2).1 = 0 := by
  have key : ∃ f : D.F, f.name = nm ∧ (D.append room nm s l).2 = D.put f l := by
    unfold D.append at h ⊢
    split
    · rename_i h1; rw [if_pos h1] at h; cases h
    rename_i h1
    rw [if_neg h1] at h
    split
    · rename_i h2; rw [if_pos h2] at h; cases h
    rename_i h2
    rw [if_neg h2] at h
    split
    · rename_i h3; rw [if_pos h3] at h; cases h
    · refine ⟨_, ?_, rfl⟩
      split <;> rfl
  obtain ⟨f, hf, e⟩ := key
  have hp := D.find_put (f := f) l
  rw [hf] at hp
  rw [e]
  unfold D.sync
  rw [hp]
set_option maxRecDepth 100000 in
set_option maxHeartbeats 1000000 in
theorem extend_l (C : D.DC) {bs : Nat} {w : World} {p room : Nat} {l : List D.F} {S : Nat → Prop} (nm : Tx) (ps : List Tx) (va : Value) (e : Nat) (l2 : List D.F) (hA : C.At bs w p room l S) (hI : D.Inv room l) (hroom : room ≤ 100000000) (hnm : nm.length ≤ 14) (hv : Reads w va (strCells ps)) (hps : ∀ q ∈ ps, F.good q) (hn : ps.length ≤ 100000000) (hfl : (F.frames ps).length ≤ 1000000000) (H : extD room nm (F.frames ps) l = (e, l2)) :
    Calls Tryz.prog 65 #[dP p, .string (B nm), va] w fun x w' => x = .returned (.int .i64 (e : Int)) ∧ (∃ S2, C.At bs w' p room l2 S2 ∧ D.Grow S w S2) ∧ D.But S w w' := by
  have HROW := Lib.hid (FRow_at ps (F.frames ps) 0 va w hv hn (Lib.hid (rowS_ok (F.codes_good hps))) (Lib.hid (F.codes_good hps)))
  have HE := Lib.hid H
  have HI := Lib.hid hI
  have HA := Lib.hid hA
  obtain ⟨s, hs⟩ : ∃ s, F.frames ps = s := ⟨_, rfl⟩
  rw [hs] at HROW HE hfl
  obtain ⟨e1, he1⟩ : ∃ e1, (D.append room nm s l).1 = e1 := ⟨_, rfl⟩
  obtain ⟨l1, hl1⟩ : ∃ l1, (D.append room nm s l).2 = l1 := ⟨_, rfl⟩
  have HAP := Lib.hid (show D.append room nm s l = (e1, l1) by rw [← he1, ← hl1])
  have HI1 := Lib.hid (show D.Inv room l1 by rw [← hl1]; exact hI.append)
  obtain ⟨na, nn, nc, rfl⟩ : ∃ a n c, va = .slice a n c := by obtain ⟨a, c, h, _⟩ := hv; exact ⟨a, _, c, h⟩
  clear H hI hA hv hps hs
  by_cases h0 : e1 = 0
  · subst h0
    have HSY := Lib.hid (show D.sync nm l1 = (e, l2) by
      have := HE.out
      unfold extD at this
      rw [if_pos he1, hl1] at this
      exact this)
    clear HE he1 hl1
    go_enter Tryz.func65, Tryz.ntmps65
    go_wp2_with fail
    refine HROW.out.mono ?_
    rintro x w1 ⟨rfl, hb1⟩
    have HA1 := Lib.hid (C.below HA.out hb1)
    have HB1 := Lib.hid (D.But.of_below (S := S) hb1)
    have hs1 := hb1.size
    clear hb1
    go_wp2_with fail
    refine (C.append nm s 0 l1 HA1.out HI.out (by omega) (by omega) hfl HAP.out).mono ?_
    rintro x w2 ⟨rfl, ⟨S2, hA2, hg2⟩, hb2⟩
    have HA2 := Lib.hid hA2
    have HG2 := Lib.hid (hg2.wide hs1)
    have HB2 := Lib.hid (HB1.out.trans hb2)
    clear hA2 hg2 hb2 HA1 HB1
    go_wp2_with fail
    refine (C.sync nm e l2 HA2.out HI1.out (by omega) (by omega) HSY.out).mono ?_
    rintro x w3 ⟨rfl, ⟨S3, hA3, hg3⟩, hb3⟩
    have HR := Lib.hid (show (∃ S2, C.At bs w3 p room l2 S2 ∧ D.Grow S w S2) ∧ D.But S w w3 from ⟨⟨S3, hA3, HG2.out.next hg3 HB2.out.size⟩, HB2.out.next hb3 HG2.out⟩)
    clear hA3 hg3 hb3
    go_wp2
    go_ret
    exact ⟨rfl, HR.out⟩
  · have HEE := Lib.hid (show e1 = e ∧ l1 = l2 by
      have := HE.out
      unfold extD at this
      rw [if_neg (by rw [he1]; exact h0), he1] at this
      have h2 := append_err (room := room) (nm := nm) (s := s) (l := l) (by rw [he1]; exact h0)
      rw [hl1] at h2
      cases this
      exact ⟨rfl, h2⟩)
    have hei : ((e1 : Int) == 0) = false := beq_eq_false_iff_ne.2 (by omega)
    have hen : ¬ (e1 : Int) = 0 := by omega
    clear HE he1 hl1
    go_enter Tryz.func65, Tryz.ntmps65
    go_wp2_with fail
    refine HROW.out.mono ?_
    rintro x w1 ⟨rfl, hb1⟩
    have HA1 := Lib.hid (C.below HA.out hb1)
    have HB1 := Lib.hid (D.But.of_below (S := S) hb1)
    have hs1 := hb1.size
    clear hb1
    go_wp2_with fail
    refine (C.append nm s e1 l1 HA1.out HI.out (by omega) (by omega) hfl HAP.out).mono ?_
    rintro x w2 ⟨rfl, ⟨S2, hA2, hg2⟩, hb2⟩
    have HA2 := Lib.hid hA2
    have HG2 := Lib.hid (hg2.wide hs1)
    have HB2 := Lib.hid (HB1.out.trans hb2)
    clear hA2 hg2 hb2 HA1 HB1
    go_wp2
    go_ret
    rw [← HEE.out.1, ← HEE.out.2]
    exact ⟨rfl, ⟨S2, HA2.out, HG2.out⟩, HB2.out⟩
def wrD (room : Nat) (nm s : Tx) (l : List D.F) : Nat × List D.F :=
  if (D.append room nm s l).1 = 0 then D.sync nm (D.append room nm s l).2 else ((D.append room nm s l).1, D.del nm l)
theorem delete_two (nm : Tx) (l : List D.F) : (D.delete nm l).2 = D.del nm l := by
  unfold D.delete
  split
  · rename_i h; exact (D.del_none h).symm
  · rfl
set_option maxRecDepth 100000 in
set_option maxHeartbeats 1000000 in
theorem write_l (C : D.DC) {bs : Nat} {w : World} {p room : Nat} {l : List D.F} {S : Nat → Prop} (nm : Tx) (ps : List Tx) (va : Value) (e : Nat) (l2 : List D.F) (hA : C.At bs w p room l S) (hI : D.Inv room l) (hroom : room ≤ 100000000) (hnm : nm.length ≤ 14) (hv : Reads w va (strCells ps)) (hps : ∀ q ∈ ps, F.good q) (hn : ps.length ≤ 100000000) (hfl : (F.frames ps).length ≤ 1000000000) (H : wrD room nm (F.frames ps) l = (e, l2)) :
    Calls Tryz.prog 62 #[dP p, .string (B nm), va] w fun x w' => x = .returned (.int .i64 (e : Int)) ∧ (∃ S2, C.At bs w' p room l2 S2 ∧ D.Grow S w S2) ∧ D.But S w w' := by
  obtain ⟨na, nn, nc, rfl⟩ : ∃ a n c, va = .slice a n c := by obtain ⟨a, c, h, _⟩ := hv; exact ⟨a, _, c, h⟩
  by_cases h0 : (D.append room nm (F.frames ps) l).1 = 0
  · have he : extD room nm (F.frames ps) l = (e, l2) := by
      unfold wrD at H
      unfold extD
      rw [if_pos h0] at H ⊢
      exact H
    have he0 : e = 0 := by
      have := sync_ok h0
      unfold extD at he
      rw [if_pos h0] at he
      rw [he] at this
      exact this
    have HX := Lib.hid (extend_l C nm ps _ e l2 hA hI hroom hnm hv hps hn hfl he)
    subst he0
    clear H h0 he hA hI hv hps
    go_enter Tryz.func62, Tryz.ntmps62
    go_wp2_with fail
    refine HX.out.mono ?_
    rintro x w1 ⟨rfl, h1, h2⟩
    have H1 := Lib.hid h1
    clear h1
    go_wp2
    go_ret
    exact ⟨rfl, H1.out, h2⟩
  · obtain ⟨e1, he1⟩ : ∃ e1, (D.append room nm (F.frames ps) l).1 = e1 := ⟨_, rfl⟩
    have he : extD room nm (F.frames ps) l = (e1, l) := by unfold extD; rw [if_neg h0, he1]
    have HEE := Lib.hid (show e1 = e ∧ D.del nm l = l2 by
      unfold wrD at H
      rw [if_neg h0, he1] at H
      cases H
      exact ⟨rfl, rfl⟩)
    have HX := Lib.hid (extend_l C nm ps _ e1 l hA hI hroom hnm hv hps hn hfl he)
    have HI := Lib.hid hI
    rw [he1] at h0
    have hei : ((e1 : Int) == 0) = false := beq_eq_false_iff_ne.2 (by omega)
    have hen : ¬ (e1 : Int) = 0 := by omega
    obtain ⟨ed, hed⟩ : ∃ ed, (D.delete nm l).1 = ed := ⟨_, rfl⟩
    have HDL := Lib.hid (show D.delete nm l = (ed, D.del nm l) by rw [← hed, ← delete_two])
    clear H he hA hI hv hps he1 hed
    go_enter Tryz.func62, Tryz.ntmps62
    go_wp2_with fail
    refine HX.out.mono ?_
    rintro x w1 ⟨rfl, ⟨S1, hA1, hg1⟩, hb1⟩
    have HA1 := Lib.hid hA1
    have HG1 := Lib.hid hg1
    have HB1 := Lib.hid hb1
    clear hA1 hg1 hb1
    go_wp2_with fail
    refine (C.delete nm ed (D.del nm l) HA1.out HI.out (by omega) (by omega) HDL.out).mono ?_
    rintro x w2 ⟨rfl, ⟨S2, hA2, hg2⟩, hb2⟩
    have HR := Lib.hid (show (∃ S2, C.At bs w2 p room (D.del nm l) S2 ∧ D.Grow S w S2) ∧ D.But S w w2 from ⟨⟨S2, hA2, HG1.out.next hg2 HB1.out.size⟩, HB1.out.next hb2 HG1.out⟩)
    clear hA2 hg2 hb2
    go_wp2
    go_ret
    rw [← HEE.out.1, ← HEE.out.2]
    exact ⟨rfl, HR.out⟩
end Go.Proofs.YtpdnbpihkiijkaaGreatDoor.G

/-
  The segment package: Load at any file, Create, Add.
-/
namespace Go.Proofs.YtpdnbpihkiijkaaGreatDoor.G
open Go.RowKit
open D (dP)
attribute [local go_sem] ext_Bd ext_Bl ext_Bt toList_B add_B size_B get_Bt

theorem Load_x (C : D.DC) {bs : Nat} {w : World} {p room : Nat} {l : List D.F} {S : Nat → Prop} (n : Nat) (e f : Nat) (es : List R.En) (t : Bool) (hA : C.At bs w p room l S) (hI : D.Inv room l) (hroom : room ≤ 100000000) (hn : n ≤ 9) (H : loadD (nameS (n : Int)) l = (e, f, es, t)) :
    Calls Tryz.prog 15 #[dP p, .int .i64 (n : Int)] w fun x w' => (∃ v xs, x = .returned (.tuple #[.agg #[.int .i64 (f : Int), v, .bool t], .int .i64 (e : Int)]) ∧ ensOf xs = es ∧ RowX w.heap.size v w' xs) ∧ Below w.heap.size w w' := by
  cases hf : D.find (nameS (n : Int)) l with
  | none =>
    unfold loadD at H
    rw [hf] at H
    cases H
    exact (load_none C n hA hI hroom hn hf).mono fun x w' ⟨a, b⟩ => ⟨⟨_, [], a, rfl, RowX.nil _ _⟩, b⟩
  | some fl =>
    obtain ⟨nm2, s, y⟩ := fl
    have hnm : nm2 = nameS (n : Int) := (D.find_some hf).2
    subst hnm
    unfold loadD at H
    rw [hf] at H
    dsimp only at H
    cases hs : (F.scan s).1 with
    | nil =>
      have hl : loadL s = none := by unfold loadL; rw [hs]
      rw [hl] at H
      cases H
      exact (load_noscan C n hA hI hroom hn s y hf hs).mono fun x w' ⟨a, b⟩ => ⟨⟨_, [], a, rfl, RowX.nil _ _⟩, b⟩
    | cons q qs =>
      cases hq : headOf q with
      | none =>
        have hl : loadL s = none := by unfold loadL; rw [hs]; dsimp only; rw [hq]
        rw [hl] at H
        cases H
        exact (load_nohead C n hA hI hroom hn s y q qs hf hs hq).mono fun x w' ⟨a, b⟩ => ⟨⟨_, [], a, rfl, RowX.nil _ _⟩, b⟩
      | some f2 =>
        have hl : loadL s = some (f2, goOn qs ((f2 : Int) - 1) 0, decide (segB f2 (goOn qs ((f2 : Int) - 1) 0) ≠ s)) := by unfold loadL; rw [hs]; dsimp only; rw [hq]
        rw [hl] at H
        dsimp only at H
        cases H
        exact (load_ok C n hA hI hroom hn s y q qs f _ hf hs hq rfl).mono fun x w' ⟨⟨v, xs, a, b, c⟩, d⟩ => ⟨⟨v, xs, a, b, c⟩, d⟩
/-- What a segment that was read is. -/
theorem load_facts {room n f : Nat} {l : List D.F} {es : List R.En} {t : Bool} (hI : D.Inv room l) (H : loadD (nameS (n : Int)) l = (0, f, es, t)) : (1 ≤ f ∧ f ≤ far) ∧ R.follows es ((f : Int) - 1) 0 = true ∧ (segB f es).length ≤ room ∧ es.length ≤ room := by
  cases hf : D.find (nameS (n : Int)) l with
  | none =>
    unfold loadD at H
    rw [hf] at H
    cases H
  | some fl =>
    obtain ⟨nm2, s, y⟩ := fl
    have hnm : nm2 = nameS (n : Int) := (D.find_some hf).2
    subst hnm
    unfold loadD at H
    rw [hf] at H
    dsimp only at H
    cases hl : loadL s with
    | none => rw [hl] at H; cases H
    | some x =>
      rw [hl] at H
      have hx : loadL s = some (f, es, t) := by
        rw [hl]
        cases H
        rfl
      obtain ⟨h1, h2, h3, ⟨r, hr⟩, _⟩ := load_is hx
      have hd := inv_data hI hf
      have hlen := congrArg List.length hr
      rw [List.length_append] at hlen
      have hge := frames_ge (rows f es)
      have hrl : (rows f es).length = es.length + 1 := by simp [rows]
      have hseg : segB f es = F.frames (rows f es) := rfl
      rw [← hseg] at hge
      exact ⟨⟨h1, h2⟩, h3, by omega, by omega⟩

set_option maxRecDepth 100000 in
set_option maxHeartbeats 2000000 in
theorem Create_l (C : D.DC) {bs : Nat} {w : World} {p room : Nat} {l : List D.F} {S : Nat → Prop} (n : Nat) (first : Int) (e : Nat) (l2 : List D.F) (hA : C.At bs w p room l S) (hI : D.Inv room l) (hroom : room ≤ 100000000) (h1 : 1 ≤ n) (h9 : n ≤ 9) (hf : i64B first) (H : createD room (nameS (n : Int)) first l = (e, l2)) :
    Calls Tryz.prog 23 #[dP p, .int .i64 (n : Int), .int .i64 first] w fun x w' => x = .returned (.int .i64 (e : Int)) ∧ (∃ S2, C.At bs w' p room l2 S2 ∧ D.Grow S w S2) ∧ D.But S w w' := by
  have hnm := name_ne (z := (n : Int)) (by omega)
  have hnl := name_len (n : Int)
  have HBN : Hid (decide ((1 : Int) ≤ (n : Int) ∧ (n : Int) ≤ 1073741824) = true) := Lib.hid (by simp; omega)
  have HA := Lib.hid hA
  have HI := Lib.hid hI
  obtain ⟨hf1, hf2⟩ := hf
  by_cases hb : first < 1 ∨ (far : Int) < first
  · have HBF : Hid (decide ((1 : Int) ≤ first ∧ first ≤ 274877906944) = false) := Lib.hid (by
      rw [decide_eq_false_iff_not]; unfold far at hb; omega)
    have HE := Lib.hid (show e = 1 ∧ l2 = l by
      unfold createD at H
      rw [if_pos (.inr hb)] at H
      cases H
      exact ⟨rfl, rfl⟩)
    clear H hb hnm hA hI
    go_enter Tryz.func23, Tryz.ntmps23
    go_wp2_with fail
    refine (between_l _ _ _ true _ HBN).mono ?_
    rintro x w1 ⟨rfl, rfl⟩
    go_wp2_with fail
    refine (between_l _ _ _ false _ HBF).mono ?_
    rintro x w2 ⟨rfl, rfl⟩
    go_wp2
    go_ret
    rw [HE.out.1, HE.out.2]
    exact ⟨rfl, ⟨S, HA.out, fun _ h => .inl h⟩, D.But.refl _ _⟩
  · obtain ⟨f, rfl⟩ : ∃ f : Nat, first = f := ⟨first.toNat, by omega⟩
    have hfar : 1 ≤ f ∧ f ≤ far := by omega
    have HBF : Hid (decide ((1 : Int) ≤ (f : Int) ∧ (f : Int) ≤ 274877906944) = true) := Lib.hid (by
      rw [decide_eq_true_iff]; have := hfar.2; unfold far at this; omega)
    unfold createD at H
    rw [if_neg (by rintro (h | h | h) <;> first | exact hnm h | omega)] at H
    obtain ⟨nm, hnme⟩ : ∃ nm, nameS (n : Int) = nm := ⟨_, rfl⟩
    have HNM := Lib.hid hnme
    rw [hnme] at H hnm hnl
    cases hfd : D.find nm l with
    | some fl =>
      rw [hfd] at H
      have HE := Lib.hid (show e = 7 ∧ l2 = l by cases H; exact ⟨rfl, rfl⟩)
      have HTH := Lib.hid (show (D.find nm l).isSome = true by rw [hfd]; rfl)
      clear H hb hnm hA hI hnme hfd hfar
      go_enter Tryz.func23, Tryz.ntmps23
      go_wp2_with fail
      refine (between_l _ _ _ true _ HBN).mono ?_
      rintro x w1 ⟨rfl, rfl⟩
      go_wp2_with fail
      refine (between_l _ _ _ true _ HBF).mono ?_
      rintro x w2 ⟨rfl, rfl⟩
      go_wp2_with fail
      refine (Name_l (n : Int) w2 ⟨by omega, by omega⟩ (.inr (by omega))).mono ?_
      rw [HNM.out]
      rintro x w3 ⟨rfl, hb3⟩
      have HA3 := Lib.hid (C.below HA.out hb3)
      have HB3 := Lib.hid hb3
      clear hb3
      go_wp2_with fail
      refine (isThere_l C nm true HA3.out HI.out hroom hnl HTH.out).mono ?_
      rintro x w4 ⟨rfl, hb4⟩
      have HB4 := Lib.hid (HB3.out.trans (hb4.mono HB3.out.size))
      have HA4 := Lib.hid (C.below HA3.out hb4)
      clear hb4
      go_wp2
      go_ret
      rw [HE.out.1, HE.out.2]
      exact ⟨rfl, ⟨S, HA4.out, fun _ h => .inl h⟩, D.But.of_below HB4.out⟩
    | none =>
      rw [hfd] at H
      dsimp only at H
      have HWR := Lib.hid (show wrD room nm (F.frames [headP f]) l = (e, l2) by
        unfold wrD
        rw [D.del_none hfd]
        exact H)
      have HTH := Lib.hid (show (D.find nm l).isSome = false by rw [hfd]; rfl)
      have hgood := head_good hfar.2
      have hhl := F.frame_len (headP f)
      have HGD := Lib.hid (show ∀ q ∈ [headP f], F.good q from fun q hq => by rw [List.mem_singleton] at hq; subst hq; exact hgood)
      have HFL := Lib.hid (show (F.frames [headP f]).length ≤ 1000000000 by
        rw [F.frames_cons, F.frames_nil, List.append_nil, hhl]; unfold F.good at hgood; omega)
      have hff := hfar.2
      clear H hb hnm hA hI hnme hfd hfar hgood hhl
      go_enter Tryz.func23, Tryz.ntmps23
      go_wp2_with fail
      refine (between_l _ _ _ true _ HBN).mono ?_
      rintro x w1 ⟨rfl, rfl⟩
      go_wp2_with fail
      refine (between_l _ _ _ true _ HBF).mono ?_
      rintro x w2 ⟨rfl, rfl⟩
      go_wp2_with fail
      refine (Name_l (n : Int) w2 ⟨by omega, by omega⟩ (.inr (by omega))).mono ?_
      rw [HNM.out]
      rintro x w3 ⟨rfl, hb3⟩
      have HA3 := Lib.hid (C.below HA.out hb3)
      have HB3 := Lib.hid hb3
      clear hb3
      go_wp2_with fail
      refine (isThere_l C nm false HA3.out HI.out hroom hnl HTH.out).mono ?_
      rintro x w4 ⟨rfl, hb4⟩
      have HB4 := Lib.hid (HB3.out.trans (hb4.mono HB3.out.size))
      have HA4 := Lib.hid (C.below HA3.out hb4)
      clear hb4 HA3 HB3
      go_wp2_with fail
      refine (Name_l (n : Int) w4 ⟨by omega, by omega⟩ (.inr (by omega))).mono ?_
      rw [HNM.out]
      rintro x w5 ⟨rfl, hb5⟩
      have HA5 := Lib.hid (C.below HA4.out hb5)
      have HB5 := Lib.hid (HB4.out.trans (hb5.mono HB4.out.size))
      clear hb5 HA4 HB4
      go_wp2_with fail
      refine (headOf_l f w5 hff).mono ?_
      rintro x w6 ⟨rfl, hb6⟩
      have HA6 := Lib.hid (C.below HA5.out hb6)
      have HB6 := Lib.hid (HB5.out.trans (hb6.mono HB5.out.size))
      clear hb6 HA5 HB5
      have hal : Below w6.heap.size w6 (w6.alloc (.cells #[.string (B (headP f))] 9)) := (Below.refl _ w6).alloc (Nat.le_refl _) _
      have HRD := Lib.hid (show Reads (w6.alloc (.cells #[.string (B (headP f))] 9)) (.slice (some ⟨w6.heap.size, 0, none⟩) 1 1) (strCells [headP f]) from
        ⟨_, 1, rfl, fun i hi => by
          obtain rfl : i = 0 := by simpa [strCells] using hi
          exact ⟨w6.heap.size, 0, rfl, by rw [World.cell?_alloc_new]; rfl⟩⟩)
      have HA7 := Lib.hid (C.below HA6.out hal)
      have HB7 := Lib.hid (HB6.out.trans (hal.mono HB6.out.size))
      clear hal
      generalize headP f = hp at *
      go_wp2_with fail
      refine (write_l C nm [hp] _ e l2 HA7.out HI.out hroom hnl HRD.out HGD.out (by simp) HFL.out HWR.out).mono ?_
      rintro x w8 ⟨rfl, ⟨S2, hA8, hg8⟩, hb8⟩
      have HR := Lib.hid (show (∃ S2, C.At bs w8 p room l2 S2 ∧ D.Grow S w2 S2) ∧ D.But S w2 w8 from ⟨⟨S2, hA8, hg8.wide HB7.out.size⟩, (D.But.of_below HB7.out).trans hb8⟩)
      clear hA8 hg8 hb8
      go_wp2
      go_ret
      exact ⟨rfl, HR.out⟩
end Go.Proofs.YtpdnbpihkiijkaaGreatDoor.G

/-
  The segment package: Add.
-/
namespace Go.Proofs.YtpdnbpihkiijkaaGreatDoor.G
open Go.RowKit
open D (dP)
attribute [local go_sem] ext_Bd ext_Bl ext_Bt toList_B add_B size_B get_Bt

theorem addD_of {room f e e0 : Nat} {nm : Tx} {l l2 : List D.F} {es es0 : List R.En} {t : Bool} (hl : loadD nm l = (e0, f, es0, t)) (H : addD room nm es l = (e, l2)) :
    (e0 ≠ 0 ∧ e = e0 ∧ l2 = l) ∨ (e0 = 0 ∧ t = true ∧ e = 2 ∧ l2 = l) ∨
    (e0 = 0 ∧ t = false ∧ R.follows es (R.lastP es0 ((f : Int) - 1)) (R.lastQ es0 0) = false ∧ e = 11 ∧ l2 = l) ∨
    (e0 = 0 ∧ t = false ∧ R.follows es (R.lastP es0 ((f : Int) - 1)) (R.lastQ es0 0) = true ∧ es = [] ∧ e = 0 ∧ l2 = l) ∨
    (e0 = 0 ∧ t = false ∧ R.follows es (R.lastP es0 ((f : Int) - 1)) (R.lastQ es0 0) = true ∧ es ≠ [] ∧ extD room nm (F.frames (es.map pay)) l = (e, l2)) := by
  unfold addD at H
  rw [hl] at H
  cases e0 with
  | succ k =>
    cases H
    exact .inl ⟨by omega, rfl, rfl⟩
  | zero =>
    dsimp only at H
    cases t with
    | true =>
      rw [if_pos rfl] at H
      cases H
      exact .inr (.inl ⟨rfl, rfl, rfl, rfl⟩)
    | false =>
      rw [if_neg (by decide)] at H
      cases hf : R.follows es (R.lastP es0 ((f : Int) - 1)) (R.lastQ es0 0) with
      | false =>
        rw [hf, if_pos rfl] at H
        cases H
        exact .inr (.inr (.inl ⟨rfl, rfl, rfl, rfl, rfl⟩))
      | true =>
        rw [hf, if_neg (by decide)] at H
        by_cases he : es = []
        · rw [if_pos he] at H
          cases H
          exact .inr (.inr (.inr (.inl ⟨rfl, rfl, rfl, he, rfl, rfl⟩)))
        · rw [if_neg he] at H
          exact .inr (.inr (.inr (.inr ⟨rfl, rfl, rfl, he, H⟩)))
set_option maxRecDepth 100000 in
set_option maxHeartbeats 4000000 in
theorem Add_l (C : D.DC) {bs : Nat} {w : World} {p room : Nat} {l : List D.F} {S : Nat → Prop} (n : Nat) (es : List EV) (v : Value) (e : Nat) (l2 : List D.F) (hA : C.At bs w p room l S) (hI : D.Inv room l) (hroom : room ≤ 100000000) (h1 : 1 ≤ n) (h9 : n ≤ 9) (hv : ∀ w', D.But S w w' → ReadsR w' v es) (hl : es.length ≤ 100) (hs : ∀ x ∈ es, E.Small x.1.b) (H : addD room (nameS (n : Int)) (ensOf es) l = (e, l2)) :
    Calls Tryz.prog 24 #[dP p, .int .i64 (n : Int), v] w fun x w' => x = .returned (.int .i64 (e : Int)) ∧ (∃ S2, C.At bs w' p room l2 S2 ∧ D.Grow S w S2) ∧ D.But S w w' := by
  obtain ⟨⟨e0, f, es0, t⟩, hld⟩ : ∃ q, loadD (nameS (n : Int)) l = q := ⟨_, rfl⟩
  have hcase := addD_of hld H
  have HLD := Lib.hid (Load_x C n e0 f es0 t hA hI hroom h9 hld)
  have HA := Lib.hid hA
  have HI := Lib.hid hI
  have HV := Lib.hid hv
  have HS := Lib.hid hs
  have hnl := name_len (n : Int)
  obtain ⟨va, vn, vc, rfl⟩ : ∃ a n c, v = .slice a n c := by obtain ⟨a, c, h, _⟩ := hv w (D.But.refl _ _); exact ⟨a, _, c, h⟩
  have hvn : vn = es.length := by
    obtain ⟨a, c, h, _⟩ := hv w (D.But.refl _ _)
    cases h
    rfl
  subst hvn
  have HFA := Lib.hid (show e0 = 0 → (1 ≤ f ∧ f ≤ far) ∧ es0.length ≤ room from fun h => by
    subst h
    have := load_facts hI hld
    exact ⟨this.1, this.2.2.2⟩)
  clear hA hI hv hs H hld
  rcases hcase with ⟨h0, rfl, rfl⟩ | ⟨rfl, rfl, rfl, rfl⟩ | ⟨rfl, rfl, hfo, rfl, rfl⟩ | ⟨rfl, rfl, hfo, hne, rfl, rfl⟩ | ⟨rfl, rfl, hfo, hne, hext⟩
  · have hei : ((e : Int) == 0) = false := beq_eq_false_iff_ne.2 (by omega)
    have hen : ¬ (e : Int) = 0 := by omega
    clear h0
    go_enter Tryz.func24, Tryz.ntmps24
    go_wp2_with fail
    refine HLD.out.mono ?_
    rintro x w1 ⟨⟨v0, xs, rfl, _, hrow⟩, hb1⟩
    obtain ⟨a0, c0, rfl⟩ := own_slice hrow.own
    have HB := Lib.hid (hb1.alloc hb1.size (.cells #[.int .i64 (f : Int), .slice a0 xs.length c0, .bool t] 38))
    have HA1 := Lib.hid (C.below HA.out HB.out)
    clear hb1 hrow
    go_wp2
    go_ret
    exact ⟨rfl, ⟨S, HA1.out, fun _ h => .inl h⟩, D.But.of_below HB.out⟩
  · go_enter Tryz.func24, Tryz.ntmps24
    go_wp2_with fail
    refine HLD.out.mono ?_
    rintro x w1 ⟨⟨v0, xs, rfl, _, hrow⟩, hb1⟩
    obtain ⟨a0, c0, rfl⟩ := own_slice hrow.own
    have HB := Lib.hid (hb1.alloc hb1.size (.cells #[.int .i64 (f : Int), .slice a0 xs.length c0, .bool true] 38))
    have HA1 := Lib.hid (C.below HA.out HB.out)
    clear hb1 hrow
    go_wp2
    go_ret
    exact ⟨rfl, ⟨S, HA1.out, fun _ h => .inl h⟩, D.But.of_below HB.out⟩
  · have HFO := Lib.hid hfo
    clear hfo
    go_enter Tryz.func24, Tryz.ntmps24
    go_wp2_with fail
    refine HLD.out.mono ?_
    rintro x w1 ⟨⟨v0, xs, rfl, hxs, hrow⟩, hb1⟩
    have HROW := Lib.hid hrow
    obtain ⟨a0, c0, rfl⟩ := own_slice hrow.own
    have HB1 := Lib.hid hb1
    have hal : Below w1.heap.size w1 (w1.alloc (.cells #[.int .i64 (f : Int), .slice a0 xs.length c0, .bool false] 38)) := (Below.refl _ w1).alloc (Nat.le_refl _) _
    have HB2 := Lib.hid (HB1.out.trans (hal.mono HB1.out.size))
    have HX2 := Lib.hid (readsR_below hrow.reads hal)
    have HV2 := Lib.hid (HV.out _ (D.But.of_below HB2.out))
    have HA2 := Lib.hid (C.below HA.out HB2.out)
    have HC0 := Lib.hid (heap_alloc_new w1 (.cells #[.int .i64 (f : Int), .slice a0 xs.length c0, .bool false] 38))
    have HFF := Lib.hid (show R.follows (ensOf es) (R.lastP (ensOf xs) ((f : Int) - 1)) (R.lastQ (ensOf xs) 0) = false by rw [hxs]; exact HFO.out)
    have hxl : xs.length ≤ 100000000 := by
      have h2 := (HFA.out (by trivial)).2
      rw [← hxs, ensOf_len] at h2
      omega
    obtain ⟨b, hbe⟩ : ∃ b, w1.heap.size = b := ⟨_, rfl⟩
    rw [hbe] at HC0
    have HBE := Lib.hid hbe
    clear hbe hal hb1 hrow hxs HFO
    go_upto_region 2 with (fail)
    rw [HBE.out]
    generalize w1.alloc (.cells #[.int .i64 (f : Int), .slice a0 xs.length c0, .bool false] 38) = W at *
    have k0 := block_cell HC0.out 0
    have k1 := block_cell HC0.out 1
    have k2 := block_cell HC0.out 2
    simp only [List.getElem?_toArray, List.getElem?_cons_zero, List.getElem?_cons_succ] at k0 k1 k2
    go_wp2_with fail
    refine (goesOn_l f xs _ false es _ false W (HFA.out (by trivial)).1 HX2.out HV2.out hxl (by omega) HS.out HFF.out).mono ?_
    rintro x w3 ⟨rfl, hb3⟩
    have HB3 := Lib.hid (HB2.out.trans (hb3.mono HB2.out.size))
    have HA3 := Lib.hid (C.below HA2.out hb3)
    clear hb3
    go_wp2
    go_ret
    exact ⟨rfl, ⟨S, HA3.out, fun _ h => .inl h⟩, D.But.of_below HB3.out⟩
  · have HFO := Lib.hid hfo
    clear hfo
    have hei : ((es.length : Int) == 0) = true := by cases es with | nil => rfl | cons a b => cases hne
    clear hne
    go_enter Tryz.func24, Tryz.ntmps24
    go_wp2_with fail
    refine HLD.out.mono ?_
    rintro x w1 ⟨⟨v0, xs, rfl, hxs, hrow⟩, hb1⟩
    have HROW := Lib.hid hrow
    obtain ⟨a0, c0, rfl⟩ := own_slice hrow.own
    have HB1 := Lib.hid hb1
    have hal : Below w1.heap.size w1 (w1.alloc (.cells #[.int .i64 (f : Int), .slice a0 xs.length c0, .bool false] 38)) := (Below.refl _ w1).alloc (Nat.le_refl _) _
    have HB2 := Lib.hid (HB1.out.trans (hal.mono HB1.out.size))
    have HX2 := Lib.hid (readsR_below hrow.reads hal)
    have HV2 := Lib.hid (HV.out _ (D.But.of_below HB2.out))
    have HA2 := Lib.hid (C.below HA.out HB2.out)
    have HC0 := Lib.hid (heap_alloc_new w1 (.cells #[.int .i64 (f : Int), .slice a0 xs.length c0, .bool false] 38))
    have HFF := Lib.hid (show R.follows (ensOf es) (R.lastP (ensOf xs) ((f : Int) - 1)) (R.lastQ (ensOf xs) 0) = true by rw [hxs]; exact HFO.out)
    have hxl : xs.length ≤ 100000000 := by
      have h2 := (HFA.out (by trivial)).2
      rw [← hxs, ensOf_len] at h2
      omega
    obtain ⟨b, hbe⟩ : ∃ b, w1.heap.size = b := ⟨_, rfl⟩
    rw [hbe] at HC0
    have HBE := Lib.hid hbe
    clear hbe hal hb1 hrow hxs HFO
    go_upto_region 2 with (fail)
    rw [HBE.out]
    generalize w1.alloc (.cells #[.int .i64 (f : Int), .slice a0 xs.length c0, .bool false] 38) = W at *
    have k0 := block_cell HC0.out 0
    have k1 := block_cell HC0.out 1
    have k2 := block_cell HC0.out 2
    simp only [List.getElem?_toArray, List.getElem?_cons_zero, List.getElem?_cons_succ] at k0 k1 k2
    go_wp2_with fail
    refine (goesOn_l f xs _ false es _ true W (HFA.out (by trivial)).1 HX2.out HV2.out hxl (by omega) HS.out HFF.out).mono ?_
    rintro x w3 ⟨rfl, hb3⟩
    have HB3 := Lib.hid (HB2.out.trans (hb3.mono HB2.out.size))
    have HA3 := Lib.hid (C.below HA2.out hb3)
    clear hb3
    go_wp2
    go_ret
    exact ⟨rfl, ⟨S, HA3.out, fun _ h => .inl h⟩, D.But.of_below HB3.out⟩
  · have HFO := Lib.hid hfo
    clear hfo
    have hel : es.length ≠ 0 := fun h => hne (by rw [List.length_eq_zero_iff.1 h]; rfl)
    have hei : ((es.length : Int) == 0) = false := beq_eq_false_iff_ne.2 (by omega)
    have heq : ¬ (es.length : Int) = 0 := by omega
    have HEX := Lib.hid hext
    clear hne hext
    go_enter Tryz.func24, Tryz.ntmps24
    go_wp2_with fail
    refine HLD.out.mono ?_
    rintro x w1 ⟨⟨v0, xs, rfl, hxs, hrow⟩, hb1⟩
    have HROW := Lib.hid hrow
    obtain ⟨a0, c0, rfl⟩ := own_slice hrow.own
    have HB1 := Lib.hid hb1
    have hal : Below w1.heap.size w1 (w1.alloc (.cells #[.int .i64 (f : Int), .slice a0 xs.length c0, .bool false] 38)) := (Below.refl _ w1).alloc (Nat.le_refl _) _
    have HB2 := Lib.hid (HB1.out.trans (hal.mono HB1.out.size))
    have HX2 := Lib.hid (readsR_below hrow.reads hal)
    have HV2 := Lib.hid (HV.out _ (D.But.of_below HB2.out))
    have HA2 := Lib.hid (C.below HA.out HB2.out)
    have HC0 := Lib.hid (heap_alloc_new w1 (.cells #[.int .i64 (f : Int), .slice a0 xs.length c0, .bool false] 38))
    have HFF := Lib.hid (show R.follows (ensOf es) (R.lastP (ensOf xs) ((f : Int) - 1)) (R.lastQ (ensOf xs) 0) = true by rw [hxs]; exact HFO.out)
    have hxl : xs.length ≤ 100000000 := by
      have h2 := (HFA.out (by trivial)).2
      rw [← hxs, ensOf_len] at h2
      omega
    obtain ⟨b, hbe⟩ : ∃ b, w1.heap.size = b := ⟨_, rfl⟩
    rw [hbe] at HC0
    have HBE := Lib.hid hbe
    clear hbe hal hb1 hrow hxs HFO
    go_upto_region 2 with (fail)
    rw [HBE.out]
    generalize w1.alloc (.cells #[.int .i64 (f : Int), .slice a0 xs.length c0, .bool false] 38) = W at *
    have k0 := block_cell HC0.out 0
    have k1 := block_cell HC0.out 1
    have k2 := block_cell HC0.out 2
    simp only [List.getElem?_toArray, List.getElem?_cons_zero, List.getElem?_cons_succ] at k0 k1 k2
    go_wp2_with fail
    refine (goesOn_l f xs _ false es _ true W (HFA.out (by trivial)).1 HX2.out HV2.out hxl (by omega) HS.out HFF.out).mono ?_
    rintro x w3 ⟨rfl, hb3⟩
    have HB3 := Lib.hid (HB2.out.trans (hb3.mono HB2.out.size))
    have HA3 := Lib.hid (C.below HA2.out hb3)
    clear hb3
    go_wp2_with fail
    refine (Name_l (n : Int) w3 ⟨by omega, by omega⟩ (.inr (by omega))).mono ?_
    rintro x w4 ⟨rfl, hb4⟩
    have HB4 := Lib.hid (HB3.out.trans (hb4.mono HB3.out.size))
    have HA4 := Lib.hid (C.below HA3.out hb4)
    have HV4 := Lib.hid (HV.out _ (D.But.of_below HB4.out))
    have hright := R.follows_right HFF.out
    have HRT := Lib.hid (show ∀ p ∈ es, R.right p.1 = true from fun p hp => hright p.1 (by unfold ensOf; exact List.mem_map_of_mem hp))
    have hpl := pays_len hright
    have HPG := Lib.hid (show ∀ q ∈ (ensOf es).map pay, F.good q from fun q hq => by
      obtain ⟨x, hx, rfl⟩ := List.mem_map.1 hq
      exact pay_good (hright x hx))
    have hpn : ((ensOf es).map pay).length = es.length := by rw [List.length_map, ensOf_len]
    rw [ensOf_len] at hpl
    clear hb4 hright HA3 HB3
    generalize nameS (n : Int) = nm at *
    go_wp2_with fail
    refine (bodyOf_l es _ w4 (by omega) HV4.out HRT.out).mono ?_
    rintro x w5 ⟨⟨vb, rfl, hown⟩, hb5⟩
    have HB5 := Lib.hid (HB4.out.trans (hb5.mono HB4.out.size))
    have HA5 := Lib.hid (C.below HA4.out hb5)
    have HRD := Lib.hid (reads_own hown)
    obtain ⟨va2, vc2, rfl⟩ := own_slice hown
    clear hb5 hown HA4 HB4
    go_wp2_with fail
    refine (extend_l C nm ((ensOf es).map pay) _ e l2 HA5.out HI.out hroom hnl HRD.out HPG.out (by omega) (by omega) HEX.out).mono ?_
    rintro x w6 ⟨rfl, ⟨S2, hA6, hg6⟩, hb6⟩
    have HR := Lib.hid (show (∃ S2, C.At bs w6 p room l2 S2 ∧ D.Grow S w S2) ∧ D.But S w w6 from ⟨⟨S2, hA6, hg6.wide HB5.out.size⟩, (D.But.of_below HB5.out).trans hb6⟩)
    clear hA6 hg6 hb6
    go_wp2
    go_ret
    exact ⟨rfl, HR.out⟩
end Go.Proofs.YtpdnbpihkiijkaaGreatDoor.G

/-
  The segment package: Cut; the landed package keeps its contracts.
-/
namespace Go.Proofs.YtpdnbpihkiijkaaGreatDoor.G
open Go.RowKit
open D (dP)
attribute [local go_sem] ext_Bd ext_Bl ext_Bt toList_B add_B size_B get_Bt

theorem cutD_of {room f e e0 : Nat} {nm : Tx} {l l2 : List D.F} {es0 : List R.En} {t : Bool} {last : Int} (hl : loadD nm l = (e0, f, es0, t)) (H : cutD room nm last l = (e, l2)) :
    (e0 ≠ 0 ∧ e = e0 ∧ l2 = l) ∨ (e0 = 0 ∧ t = false ∧ (upto last es0).length = es0.length ∧ e = 0 ∧ l2 = l) ∨
    (e0 = 0 ∧ ¬ (t = false ∧ (upto last es0).length = es0.length) ∧ (D.append room temp (segB f (upto last es0)) (D.del temp l)).1 = 0 ∧ D.rename temp nm (D.sync temp (D.append room temp (segB f (upto last es0)) (D.del temp l)).2).2 = (e, l2)) ∨
    (e0 = 0 ∧ ¬ (t = false ∧ (upto last es0).length = es0.length) ∧ (D.append room temp (segB f (upto last es0)) (D.del temp l)).1 ≠ 0 ∧ e = (D.append room temp (segB f (upto last es0)) (D.del temp l)).1 ∧ l2 = D.del temp l) := by
  unfold cutD at H
  rw [hl] at H
  cases e0 with
  | succ k =>
    cases H
    exact .inl ⟨by omega, rfl, rfl⟩
  | zero =>
    dsimp only at H
    by_cases hc : t = false ∧ (upto last es0).length = es0.length
    · rw [if_pos hc] at H
      cases H
      exact .inr (.inl ⟨rfl, hc.1, hc.2, rfl, rfl⟩)
    · rw [if_neg hc] at H
      by_cases ha : (D.append room temp (segB f (upto last es0)) (D.del temp l)).1 = 0
      · rw [if_pos ha] at H
        exact .inr (.inr (.inl ⟨rfl, hc, ha, H⟩))
      · rw [if_neg ha] at H
        cases H
        exact .inr (.inr (.inr ⟨rfl, hc, ha, rfl, rfl⟩))
theorem readsC_own {w : World} {base : Nat} {v : Value} {n : Nat} {xs : List Value} (h : w.ownsRow base 9 1 v n xs) : ReadsC w v xs := by
  have hn : xs.length = n := by have := h.1; omega
  subst hn
  rcases h.2 with ⟨rfl, h0⟩ | ⟨g, cap, cur, rfl, _, _, hc, _⟩
  · exact ⟨none, 0, by rw [h0], by omega, fun _ => rfl, fun i hi => by omega⟩
  · exact ⟨_, cap, rfl, hc, fun h => (by cases h), fun i hi => ⟨g, 0, rfl, by rw [Nat.zero_add]; exact h.cellAt i (by omega)⟩⟩
theorem segB_take {f : Nat} {es : List R.En} (k : Nat) : (segB f (es.take k)).length ≤ (segB f es).length := by
  conv => rhs; rw [← List.take_append_drop k es]
  rw [segB_append, List.length_append]
  omega
set_option maxRecDepth 100000 in
set_option maxHeartbeats 8000000 in
theorem Cut_l (C : D.DC) {bs : Nat} {w : World} {p room : Nat} {l : List D.F} {S : Nat → Prop} (n : Nat) (last : Int) (e : Nat) (l2 : List D.F) (hA : C.At bs w p room l S) (hI : D.Inv room l) (hroom : room ≤ 100000000) (h1 : 1 ≤ n) (h9 : n ≤ 9) (H : cutD room (nameS (n : Int)) last l = (e, l2)) :
    Calls Tryz.prog 29 #[dP p, .int .i64 (n : Int), .int .i64 last] w fun x w' => x = .returned (.int .i64 (e : Int)) ∧ (∃ S2, C.At bs w' p room l2 S2 ∧ D.Grow S w S2) ∧ D.But S w w' := by
  obtain ⟨⟨e0, f, es0, t⟩, hld⟩ : ∃ q, loadD (nameS (n : Int)) l = q := ⟨_, rfl⟩
  have hcase := cutD_of hld H
  have HLD := Lib.hid (Load_x C n e0 f es0 t hA hI hroom h9 hld)
  have HA := Lib.hid hA
  have HI := Lib.hid hI
  have hnl := name_len (n : Int)
  have HLOW := Lib.hid (show ∀ k, S k → k < w.heap.size from fun k hk => (C.low hA hk).2)
  have HFA := Lib.hid (show e0 = 0 → (1 ≤ f ∧ f ≤ far) ∧ es0.length ≤ room ∧ R.follows es0 ((f : Int) - 1) 0 = true ∧ (segB f es0).length ≤ room from fun h => by
    subst h
    have := load_facts hI hld
    exact ⟨this.1, this.2.2.2, this.2.1, this.2.2.1⟩)
  clear hA hI H hld
  rcases hcase with ⟨h0, rfl, rfl⟩ | ⟨rfl, rfl, hup, rfl, rfl⟩ | ⟨rfl, hc, hap, hrn⟩ | ⟨rfl, hc, hap, rfl, rfl⟩
  · have hei : ((e : Int) == 0) = false := beq_eq_false_iff_ne.2 (by omega)
    have hen : ¬ (e : Int) = 0 := by omega
    clear h0
    go_enter Tryz.func29, Tryz.ntmps29
    go_wp2_with fail
    refine HLD.out.mono ?_
    rintro x w1 ⟨⟨v0, xs, rfl, _, hrow⟩, hb1⟩
    obtain ⟨a0, c0, rfl⟩ := own_slice hrow.own
    have HB := Lib.hid (hb1.alloc hb1.size (.cells #[.int .i64 (f : Int), .slice a0 xs.length c0, .bool t] 38))
    have HA1 := Lib.hid (C.below HA.out HB.out)
    clear hb1 hrow
    go_wp2
    go_ret
    exact ⟨rfl, ⟨S, HA1.out, fun _ h => .inl h⟩, D.But.of_below HB.out⟩
  · have HUP := Lib.hid hup
    clear hup
    go_enter Tryz.func29, Tryz.ntmps29
    go_wp2_with fail
    refine HLD.out.mono ?_
    rintro x w1 ⟨⟨v0, xs, rfl, hxs, hrow⟩, hb1⟩
    obtain ⟨a0, c0, rfl⟩ := own_slice hrow.own
    have HB1 := Lib.hid hb1
    have hal : Below w1.heap.size w1 (w1.alloc (.cells #[.int .i64 (f : Int), .slice a0 xs.length c0, .bool false] 38)) := (Below.refl _ w1).alloc (Nat.le_refl _) _
    have HB2 := Lib.hid (HB1.out.trans (hal.mono HB1.out.size))
    have HROW := Lib.hid (hrow.below hal)
    have HA2 := Lib.hid (C.below HA.out HB2.out)
    have HC0 := Lib.hid (heap_alloc_new w1 (.cells #[.int .i64 (f : Int), .slice a0 xs.length c0, .bool false] 38))
    have hxl : xs.length ≤ 100000000 := by
      have h2 := (HFA.out (by trivial)).2.1
      rw [← hxs, ensOf_len] at h2
      omega
    have HXS := Lib.hid hxs
    have hwb := HB1.out.size
    obtain ⟨b, hbe⟩ : ∃ b, w1.heap.size = b := ⟨_, rfl⟩
    rw [hbe] at HC0 hwb
    have HBE := Lib.hid hbe
    clear hbe hal hb1 hrow hxs
    go_upto_region 2 with (fail)
    rw [HBE.out]
    generalize w1.alloc (.cells #[.int .i64 (f : Int), .slice a0 xs.length c0, .bool false] 38) = W at *
    have k0 := block_cell HC0.out 0
    have k1 := block_cell HC0.out 1
    have k2 := block_cell HC0.out 2
    simp only [List.getElem?_toArray, List.getElem?_cons_zero, List.getElem?_cons_succ] at k0 k1 k2
    go_wp2_with fail
    refine (upTo_l xs a0 c0 last W hxl HROW.out.reads).mono ?_
    rintro x w3 ⟨⟨k, rfl, hk, hu⟩, hb3⟩
    have HB3 := Lib.hid (HB2.out.trans (hb3.mono HB2.out.size))
    have HA3 := Lib.hid (C.below HA2.out hb3)
    have HROW3 := Lib.hid (HROW.out.below hb3)
    have HC3 := Lib.hid (block_below HC0.out hb3)
    have HU := Lib.hid hu
    have hs3 := lt_of_block HC3.out
    clear hb3 hu HA2 HB2 HROW HC0 k0 k1 k2
    have k0 := block_cell HC3.out 0
    have k1 := block_cell HC3.out 1
    have k2 := block_cell HC3.out 2
    simp only [List.getElem?_toArray, List.getElem?_cons_zero, List.getElem?_cons_succ] at k0 k1 k2
    have hke : ((k : Int) == (xs.length : Int)) = true := by
      have h2 := HUP.out
      rw [← HXS.out, HU.out, ensOf_len, ensOf_len, List.length_take] at h2
      rw [beq_iff_eq]; omega
    go_wp2
    go_ret
    exact ⟨rfl, ⟨S, HA3.out, fun _ h => .inl h⟩, D.But.of_below HB3.out⟩
  · have HC := Lib.hid hc
    have HAP := Lib.hid hap
    have HRN := Lib.hid hrn
    clear hc hap hrn
    cases t
    · go_enter Tryz.func29, Tryz.ntmps29
      go_wp2_with fail
      refine HLD.out.mono ?_
      rintro x w1 ⟨⟨v0, xs, rfl, hxs, hrow⟩, hb1⟩
      obtain ⟨a0, c0, rfl⟩ := own_slice hrow.own
      have HB1 := Lib.hid hb1
      have hal : Below w1.heap.size w1 (w1.alloc (.cells #[.int .i64 (f : Int), .slice a0 xs.length c0, .bool false] 38)) := (Below.refl _ w1).alloc (Nat.le_refl _) _
      have HB2 := Lib.hid (HB1.out.trans (hal.mono HB1.out.size))
      have HROW := Lib.hid (hrow.below hal)
      have HA2 := Lib.hid (C.below HA.out HB2.out)
      have HC0 := Lib.hid (heap_alloc_new w1 (.cells #[.int .i64 (f : Int), .slice a0 xs.length c0, .bool false] 38))
      have hxl : xs.length ≤ 100000000 := by
        have h2 := (HFA.out (by trivial)).2.1
        rw [← hxs, ensOf_len] at h2
        omega
      have HXS := Lib.hid hxs
      have hwb := HB1.out.size
      obtain ⟨b, hbe⟩ : ∃ b, w1.heap.size = b := ⟨_, rfl⟩
      rw [hbe] at HC0 hwb
      have HBE := Lib.hid hbe
      clear hbe hal hb1 hrow hxs
      go_upto_region 2 with (fail)
      rw [HBE.out]
      generalize w1.alloc (.cells #[.int .i64 (f : Int), .slice a0 xs.length c0, .bool false] 38) = W at *
      have k0 := block_cell HC0.out 0
      have k1 := block_cell HC0.out 1
      have k2 := block_cell HC0.out 2
      simp only [List.getElem?_toArray, List.getElem?_cons_zero, List.getElem?_cons_succ] at k0 k1 k2
      go_wp2_with fail
      refine (upTo_l xs a0 c0 last W hxl HROW.out.reads).mono ?_
      rintro x w3 ⟨⟨k, rfl, hk, hu⟩, hb3⟩
      have HB3 := Lib.hid (HB2.out.trans (hb3.mono HB2.out.size))
      have HA3 := Lib.hid (C.below HA2.out hb3)
      have HROW3 := Lib.hid (HROW.out.below hb3)
      have HC3 := Lib.hid (block_below HC0.out hb3)
      have HU := Lib.hid hu
      have hs3 := lt_of_block HC3.out
      clear hb3 hu HA2 HB2 HROW HC0 k0 k1 k2
      have k0 := block_cell HC3.out 0
      have k1 := block_cell HC3.out 1
      have k2 := block_cell HC3.out 2
      simp only [List.getElem?_toArray, List.getElem?_cons_zero, List.getElem?_cons_succ] at k0 k1 k2
      have hke : ((k : Int) == (xs.length : Int)) = false := by
        rw [beq_eq_false_iff_ne]
        intro h2
        refine HC.out ⟨by trivial, ?_⟩
        rw [← HXS.out, HU.out, ensOf_len, ensOf_len, List.length_take]
        omega
      obtain ⟨ed, hed⟩ : ∃ ed, (D.delete temp l).1 = ed := ⟨_, rfl⟩
      have HDL := Lib.hid (show D.delete temp l = (ed, D.del temp l) by rw [← hed, ← delete_two])
      have HID := Lib.hid (show D.Inv room (D.del temp l) from HI.out.del)
      clear hed
      go_wp2_with fail
      refine (C.delete temp ed (D.del temp l) HA3.out HI.out (by omega) (by decide) HDL.out).mono ?_
      rintro x w4 ⟨rfl, ⟨S4, hA4, hg4⟩, hb4⟩
      have HA4 := Lib.hid hA4
      have HG4 := Lib.hid (hg4.wide HB3.out.size)
      have hnS : ∀ j, w.heap.size ≤ j → ¬ S j := fun j hj hs => by have := HLOW.out j hs; omega
      have HB4 := Lib.hid ((D.But.of_below HB3.out).trans hb4)
      have HROW4 := Lib.hid (HROW3.out.but hb4 hnS)
      have HC4 := Lib.hid (but_at hb4 HC3.out (hnS b hwb))
      clear hA4 hg4 hb4 hnS k0 k1 k2 HA3 HB3 HROW3 HC3 HDL
      have k0 := block_cell HC4.out 0
      simp only [List.getElem?_toArray, List.getElem?_cons_zero] at k0
      have hfar := (HFA.out (by trivial)).1.2
      go_wp2_with fail
      refine (headOf_l f w4 hfar).mono ?_
      rintro x w5 ⟨rfl, hb5⟩
      have HA5 := Lib.hid (C.below HA4.out hb5)
      have HB5 := Lib.hid (HB4.out.trans (D.But.of_below (S := S) hb5))
      have HROW5 := Lib.hid (HROW4.out.below hb5)
      have hs45 := hb5.size
      have hws5 := HB5.out.size
      clear hb5 HA4 HB4 HROW4 HC4
      obtain ⟨hp, hhp⟩ : ∃ hp, headP f = hp := ⟨_, rfl⟩
      have HHP := Lib.hid hhp
      rw [hhp]
      have hal : Below w5.heap.size w5 (w5.alloc (.cells #[.string (B hp)] 9)) := (Below.refl _ w5).alloc (Nat.le_refl _) _
      have HOWN := Lib.hid (show (w5.alloc (.cells #[.string (B hp)] 9)).ownsRow w5.heap.size 9 1 (.slice (some ⟨w5.heap.size, 0, none⟩) 1 1) 1 [.string (B hp)] from
        ⟨rfl, .inr ⟨w5.heap.size, 1, #[.string (B hp)], rfl, Nat.le_refl _, heap_alloc_new w5 _, Nat.le_refl _, by unfold maxLen; omega, rfl, rfl⟩⟩)
      have HLT5 := Lib.hid (show ∀ j, S4 j → j < w5.heap.size from fun j hj => (C.low HA5.out hj).2)
      have HA6 := Lib.hid (C.below HA5.out hal)
      have HB6 := Lib.hid (HB5.out.trans (D.But.of_below (S := S) hal))
      have HRK := Lib.hid (readsR_take (HROW5.out.below hal).reads hk)
      have HRTK := Lib.hid (show ∀ q ∈ xs.take k, R.right q.1 = true from fun q hq => (HROW5.out.ev q (List.mem_of_mem_take hq)).2.1)
      have htl : (xs.take k).length = k := by rw [List.length_take]; omega
      have hs56 : w5.heap.size ≤ (w5.alloc (.cells #[.string (B hp)] 9)).heap.size := hal.size
      clear hal hhp HA5 HB5
      go_wp2_with fail
      refine (bodyOf_l (xs.take k) _ _ (by omega) HRK.out HRTK.out).mono ?_
      rintro x w7 ⟨⟨vb, rfl, hown⟩, hb7⟩
      rw [htl] at hown
      have HB7 := Lib.hid (HB6.out.trans (D.But.of_below (S := S) hb7))
      have HA7 := Lib.hid (C.below HA6.out hb7)
      have HRB := Lib.hid (readsC_own hown)
      have HOW7 := Lib.hid (own_below HOWN.out hb7)
      have hs67 := hb7.size
      have hpn : (strCells ((ensOf (xs.take k)).map pay)).length = k := by rw [strCells_len, List.length_map, ensOf_len, htl]
      obtain ⟨vba, vbc, rfl⟩ := own_slice hown
      clear hb7 hown HA6 HB6 HOWN HRK
      obtain ⟨i0, hi, hz0, hz1, hz2⟩ := info_parts Tryz.infoStr
      go_upto_region 9 with (at_builtin; refine wpList_append_reads rfl _ _ 65 rfl w5.heap.size 9 i0 (.string ⟨#[]⟩) 16 Tryz.underlying65 hi hz0 hz1 hz2 rfl (.slice (some ⟨w5.heap.size, 0, none⟩) 1 1) 1 [.string (B hp)] rfl HOW7.out _ _ rfl HRB.out (by intro u hu; unfold strCells at hu; obtain ⟨z, _, rfl⟩ := List.mem_map.1 hu; rfl) (by rw [hpn]; unfold maxLen; omega) (by rw [hpn]; omega) (by omega) ?_; intro v8 w8 hown8 hgrow8; rw [hpn] at hown8; have HOWN8 := Lib.hid hown8; have HGR8 := Lib.hid (show w7.grownBy w8 (some w5.heap.size) from hgrow8); obtain ⟨va8, vc8, rfl⟩ := own_slice hown8; clear hown8 hgrow8)
      have hb8 : Below w5.heap.size w7 w8 := (Below.refl w5.heap.size w7).grown HGR8.out (by omega) fun j hj => by cases hj; exact Nat.le_refl _
      have HB8 := Lib.hid (show D.But S w w8 from ⟨HGR8.out.os.trans HB7.out.os, HGR8.out.tape.trans HB7.out.tape, HGR8.out.output.trans HB7.out.output, Nat.le_trans HB7.out.size HGR8.out.size, fun j hj hs => (hb8.block j (by omega)).trans (HB7.out.block j hj hs)⟩)
      have HA8 := Lib.hid (C.keep HA7.out HGR8.out.size fun j hj => HGR8.out.block j (C.low HA7.out hj).2 fun e => by
        have h2 := HLT5.out j hj
        have h3 : w5.heap.size = j := by cases e; rfl
        omega)
      have HU2 := Lib.hid (show upto last es0 = ensOf (xs.take k) by rw [← HXS.out]; exact HU.out)
      have HSEG := Lib.hid (show segB f (ensOf (xs.take k)) = F.frames (hp :: (ensOf (xs.take k)).map pay) by unfold segB rows; rw [HHP.out])
      have hsegl : (segB f (ensOf (xs.take k))).length ≤ room := by
        have h2 := (HFA.out (by trivial)).2.2.2
        have h3 := segB_take (f := f) (es := es0) k
        rw [← HXS.out, ← ensOf_take] at h3
        rw [← HXS.out] at h2
        omega
      have hrl := frames_ge (rows f (ensOf (xs.take k)))
      have HGD := Lib.hid (show ∀ q ∈ hp :: (ensOf (xs.take k)).map pay, F.good q from fun q hq => by
        refine rows_good (n := f) (es := ensOf (xs.take k)) hfar (fun z hz => ?_) q (by unfold rows; rw [HHP.out]; exact hq)
        unfold ensOf at hz
        obtain ⟨y2, hy2, rfl⟩ := List.mem_map.1 hz
        exact HRTK.out y2 hy2)
      have HRD8 := Lib.hid (show Reads w8 (.slice va8 (1 + k) vc8) (strCells (hp :: (ensOf (xs.take k)).map pay)) from reads_own HOWN8.out)
      have hrl2 : (hp :: (ensOf (xs.take k)).map pay).length ≤ 100000000 := by
        have e1 : (rows f (ensOf (xs.take k))).length = (hp :: (ensOf (xs.take k)).map pay).length := by unfold rows; rw [HHP.out]
        have e2 : F.frames (rows f (ensOf (xs.take k))) = segB f (ensOf (xs.take k)) := rfl
        rw [e2] at hrl
        omega
      have hfl2 : (F.frames (hp :: (ensOf (xs.take k)).map pay)).length ≤ 1000000000 := by rw [← HSEG.out]; omega
      have HBW := Lib.hid (show D.But S w w8 from HB8.out)
      have HGW := Lib.hid HG4.out
      clear hrl hsegl HOW7 HRB HOWN8 HGR8 hb8 hpn htl k0 HA7 HB7 HB8 HRTK HROW5
      obtain ⟨ps, hps⟩ : ∃ ps, hp :: (ensOf (xs.take k)).map pay = ps := ⟨_, rfl⟩
      rw [hps] at HSEG HGD HRD8 hrl2 hfl2
      rw [HU2.out, HSEG.out] at HAP
      rw [HU2.out, HSEG.out] at HRN
      obtain ⟨lw, hlw⟩ : ∃ lw, (D.sync temp (D.append room temp (F.frames ps) (D.del temp l)).2).2 = lw := ⟨_, rfl⟩
      have HWR := Lib.hid (show wrD room temp (F.frames ps) (D.del temp l) = (0, lw) by
        unfold wrD
        rw [if_pos HAP.out, ← hlw]
        exact Prod.ext (sync_ok HAP.out) rfl)
      have HILW := Lib.hid (show D.Inv room lw by rw [← hlw]; exact HID.out.append.sync)
      rw [hlw] at HRN
      clear hlw hps HAP
      go_wp2_with fail
      refine (write_l C temp ps _ 0 lw HA8.out HID.out hroom (by decide) HRD8.out HGD.out hrl2 hfl2 HWR.out).mono ?_
      rintro x w9 ⟨rfl, ⟨S9, hA9, hg9⟩, hb9⟩
      have HA9 := Lib.hid hA9
      have HG9 := Lib.hid (HGW.out.next hg9 HBW.out.size)
      have HB9 := Lib.hid (HBW.out.next hb9 HGW.out)
      clear hA9 hg9 hb9
      go_wp2_with fail
      refine (Name_l (n : Int) w9 ⟨by omega, by omega⟩ (.inr (by omega))).mono ?_
      rintro x w10 ⟨rfl, hb10⟩
      have HA10 := Lib.hid (C.below HA9.out hb10)
      have HB10 := Lib.hid (HB9.out.trans (D.But.of_below (S := S) hb10))
      have hs10 := hb10.size
      clear hb10
      go_wp2_with fail
      refine (C.rename temp (nameS (n : Int)) e l2 HA10.out HILW.out (by omega) (by decide) (by omega) HRN.out).mono ?_
      rintro x w11 ⟨rfl, ⟨S11, hA11, hg11⟩, hb11⟩
      have HR := Lib.hid (show (∃ S2, C.At bs w11 p room l2 S2 ∧ D.Grow S w S2) ∧ D.But S w w11 from ⟨⟨S11, hA11, HG9.out.next hg11 HB10.out.size⟩, HB10.out.next hb11 HG9.out⟩)
      clear hA11 hg11 hb11
      go_wp2
      go_ret
      exact ⟨rfl, HR.out⟩
    · go_enter Tryz.func29, Tryz.ntmps29
      go_wp2_with fail
      refine HLD.out.mono ?_
      rintro x w1 ⟨⟨v0, xs, rfl, hxs, hrow⟩, hb1⟩
      obtain ⟨a0, c0, rfl⟩ := own_slice hrow.own
      have HB1 := Lib.hid hb1
      have hal : Below w1.heap.size w1 (w1.alloc (.cells #[.int .i64 (f : Int), .slice a0 xs.length c0, .bool true] 38)) := (Below.refl _ w1).alloc (Nat.le_refl _) _
      have HB2 := Lib.hid (HB1.out.trans (hal.mono HB1.out.size))
      have HROW := Lib.hid (hrow.below hal)
      have HA2 := Lib.hid (C.below HA.out HB2.out)
      have HC0 := Lib.hid (heap_alloc_new w1 (.cells #[.int .i64 (f : Int), .slice a0 xs.length c0, .bool true] 38))
      have hxl : xs.length ≤ 100000000 := by
        have h2 := (HFA.out (by trivial)).2.1
        rw [← hxs, ensOf_len] at h2
        omega
      have HXS := Lib.hid hxs
      have hwb := HB1.out.size
      obtain ⟨b, hbe⟩ : ∃ b, w1.heap.size = b := ⟨_, rfl⟩
      rw [hbe] at HC0 hwb
      have HBE := Lib.hid hbe
      clear hbe hal hb1 hrow hxs
      go_upto_region 2 with (fail)
      rw [HBE.out]
      generalize w1.alloc (.cells #[.int .i64 (f : Int), .slice a0 xs.length c0, .bool true] 38) = W at *
      have k0 := block_cell HC0.out 0
      have k1 := block_cell HC0.out 1
      have k2 := block_cell HC0.out 2
      simp only [List.getElem?_toArray, List.getElem?_cons_zero, List.getElem?_cons_succ] at k0 k1 k2
      go_wp2_with fail
      refine (upTo_l xs a0 c0 last W hxl HROW.out.reads).mono ?_
      rintro x w3 ⟨⟨k, rfl, hk, hu⟩, hb3⟩
      have HB3 := Lib.hid (HB2.out.trans (hb3.mono HB2.out.size))
      have HA3 := Lib.hid (C.below HA2.out hb3)
      have HROW3 := Lib.hid (HROW.out.below hb3)
      have HC3 := Lib.hid (block_below HC0.out hb3)
      have HU := Lib.hid hu
      have hs3 := lt_of_block HC3.out
      clear hb3 hu HA2 HB2 HROW HC0 k0 k1 k2
      have k0 := block_cell HC3.out 0
      have k1 := block_cell HC3.out 1
      have k2 := block_cell HC3.out 2
      simp only [List.getElem?_toArray, List.getElem?_cons_zero, List.getElem?_cons_succ] at k0 k1 k2
      obtain ⟨ed, hed⟩ : ∃ ed, (D.delete temp l).1 = ed := ⟨_, rfl⟩
      have HDL := Lib.hid (show D.delete temp l = (ed, D.del temp l) by rw [← hed, ← delete_two])
      have HID := Lib.hid (show D.Inv room (D.del temp l) from HI.out.del)
      clear hed
      go_wp2_with fail
      refine (C.delete temp ed (D.del temp l) HA3.out HI.out (by omega) (by decide) HDL.out).mono ?_
      rintro x w4 ⟨rfl, ⟨S4, hA4, hg4⟩, hb4⟩
      have HA4 := Lib.hid hA4
      have HG4 := Lib.hid (hg4.wide HB3.out.size)
      have hnS : ∀ j, w.heap.size ≤ j → ¬ S j := fun j hj hs => by have := HLOW.out j hs; omega
      have HB4 := Lib.hid ((D.But.of_below HB3.out).trans hb4)
      have HROW4 := Lib.hid (HROW3.out.but hb4 hnS)
      have HC4 := Lib.hid (but_at hb4 HC3.out (hnS b hwb))
      clear hA4 hg4 hb4 hnS k0 k1 k2 HA3 HB3 HROW3 HC3 HDL
      have k0 := block_cell HC4.out 0
      simp only [List.getElem?_toArray, List.getElem?_cons_zero] at k0
      have hfar := (HFA.out (by trivial)).1.2
      go_wp2_with fail
      refine (headOf_l f w4 hfar).mono ?_
      rintro x w5 ⟨rfl, hb5⟩
      have HA5 := Lib.hid (C.below HA4.out hb5)
      have HB5 := Lib.hid (HB4.out.trans (D.But.of_below (S := S) hb5))
      have HROW5 := Lib.hid (HROW4.out.below hb5)
      have hs45 := hb5.size
      have hws5 := HB5.out.size
      clear hb5 HA4 HB4 HROW4 HC4
      obtain ⟨hp, hhp⟩ : ∃ hp, headP f = hp := ⟨_, rfl⟩
      have HHP := Lib.hid hhp
      rw [hhp]
      have hal : Below w5.heap.size w5 (w5.alloc (.cells #[.string (B hp)] 9)) := (Below.refl _ w5).alloc (Nat.le_refl _) _
      have HOWN := Lib.hid (show (w5.alloc (.cells #[.string (B hp)] 9)).ownsRow w5.heap.size 9 1 (.slice (some ⟨w5.heap.size, 0, none⟩) 1 1) 1 [.string (B hp)] from
        ⟨rfl, .inr ⟨w5.heap.size, 1, #[.string (B hp)], rfl, Nat.le_refl _, heap_alloc_new w5 _, Nat.le_refl _, by unfold maxLen; omega, rfl, rfl⟩⟩)
      have HLT5 := Lib.hid (show ∀ j, S4 j → j < w5.heap.size from fun j hj => (C.low HA5.out hj).2)
      have HA6 := Lib.hid (C.below HA5.out hal)
      have HB6 := Lib.hid (HB5.out.trans (D.But.of_below (S := S) hal))
      have HRK := Lib.hid (readsR_take (HROW5.out.below hal).reads hk)
      have HRTK := Lib.hid (show ∀ q ∈ xs.take k, R.right q.1 = true from fun q hq => (HROW5.out.ev q (List.mem_of_mem_take hq)).2.1)
      have htl : (xs.take k).length = k := by rw [List.length_take]; omega
      have hs56 : w5.heap.size ≤ (w5.alloc (.cells #[.string (B hp)] 9)).heap.size := hal.size
      clear hal hhp HA5 HB5
      go_wp2_with fail
      refine (bodyOf_l (xs.take k) _ _ (by omega) HRK.out HRTK.out).mono ?_
      rintro x w7 ⟨⟨vb, rfl, hown⟩, hb7⟩
      rw [htl] at hown
      have HB7 := Lib.hid (HB6.out.trans (D.But.of_below (S := S) hb7))
      have HA7 := Lib.hid (C.below HA6.out hb7)
      have HRB := Lib.hid (readsC_own hown)
      have HOW7 := Lib.hid (own_below HOWN.out hb7)
      have hs67 := hb7.size
      have hpn : (strCells ((ensOf (xs.take k)).map pay)).length = k := by rw [strCells_len, List.length_map, ensOf_len, htl]
      obtain ⟨vba, vbc, rfl⟩ := own_slice hown
      clear hb7 hown HA6 HB6 HOWN HRK
      obtain ⟨i0, hi, hz0, hz1, hz2⟩ := info_parts Tryz.infoStr
      go_upto_region 9 with (at_builtin; refine wpList_append_reads rfl _ _ 65 rfl w5.heap.size 9 i0 (.string ⟨#[]⟩) 16 Tryz.underlying65 hi hz0 hz1 hz2 rfl (.slice (some ⟨w5.heap.size, 0, none⟩) 1 1) 1 [.string (B hp)] rfl HOW7.out _ _ rfl HRB.out (by intro u hu; unfold strCells at hu; obtain ⟨z, _, rfl⟩ := List.mem_map.1 hu; rfl) (by rw [hpn]; unfold maxLen; omega) (by rw [hpn]; omega) (by omega) ?_; intro v8 w8 hown8 hgrow8; rw [hpn] at hown8; have HOWN8 := Lib.hid hown8; have HGR8 := Lib.hid (show w7.grownBy w8 (some w5.heap.size) from hgrow8); obtain ⟨va8, vc8, rfl⟩ := own_slice hown8; clear hown8 hgrow8)
      have hb8 : Below w5.heap.size w7 w8 := (Below.refl w5.heap.size w7).grown HGR8.out (by omega) fun j hj => by cases hj; exact Nat.le_refl _
      have HB8 := Lib.hid (show D.But S w w8 from ⟨HGR8.out.os.trans HB7.out.os, HGR8.out.tape.trans HB7.out.tape, HGR8.out.output.trans HB7.out.output, Nat.le_trans HB7.out.size HGR8.out.size, fun j hj hs => (hb8.block j (by omega)).trans (HB7.out.block j hj hs)⟩)
      have HA8 := Lib.hid (C.keep HA7.out HGR8.out.size fun j hj => HGR8.out.block j (C.low HA7.out hj).2 fun e => by
        have h2 := HLT5.out j hj
        have h3 : w5.heap.size = j := by cases e; rfl
        omega)
      have HU2 := Lib.hid (show upto last es0 = ensOf (xs.take k) by rw [← HXS.out]; exact HU.out)
      have HSEG := Lib.hid (show segB f (ensOf (xs.take k)) = F.frames (hp :: (ensOf (xs.take k)).map pay) by unfold segB rows; rw [HHP.out])
      have hsegl : (segB f (ensOf (xs.take k))).length ≤ room := by
        have h2 := (HFA.out (by trivial)).2.2.2
        have h3 := segB_take (f := f) (es := es0) k
        rw [← HXS.out, ← ensOf_take] at h3
        rw [← HXS.out] at h2
        omega
      have hrl := frames_ge (rows f (ensOf (xs.take k)))
      have HGD := Lib.hid (show ∀ q ∈ hp :: (ensOf (xs.take k)).map pay, F.good q from fun q hq => by
        refine rows_good (n := f) (es := ensOf (xs.take k)) hfar (fun z hz => ?_) q (by unfold rows; rw [HHP.out]; exact hq)
        unfold ensOf at hz
        obtain ⟨y2, hy2, rfl⟩ := List.mem_map.1 hz
        exact HRTK.out y2 hy2)
      have HRD8 := Lib.hid (show Reads w8 (.slice va8 (1 + k) vc8) (strCells (hp :: (ensOf (xs.take k)).map pay)) from reads_own HOWN8.out)
      have hrl2 : (hp :: (ensOf (xs.take k)).map pay).length ≤ 100000000 := by
        have e1 : (rows f (ensOf (xs.take k))).length = (hp :: (ensOf (xs.take k)).map pay).length := by unfold rows; rw [HHP.out]
        have e2 : F.frames (rows f (ensOf (xs.take k))) = segB f (ensOf (xs.take k)) := rfl
        rw [e2] at hrl
        omega
      have hfl2 : (F.frames (hp :: (ensOf (xs.take k)).map pay)).length ≤ 1000000000 := by rw [← HSEG.out]; omega
      have HBW := Lib.hid (show D.But S w w8 from HB8.out)
      have HGW := Lib.hid HG4.out
      clear hrl hsegl HOW7 HRB HOWN8 HGR8 hb8 hpn htl k0 HA7 HB7 HB8 HRTK HROW5
      obtain ⟨ps, hps⟩ : ∃ ps, hp :: (ensOf (xs.take k)).map pay = ps := ⟨_, rfl⟩
      rw [hps] at HSEG HGD HRD8 hrl2 hfl2
      rw [HU2.out, HSEG.out] at HAP
      rw [HU2.out, HSEG.out] at HRN
      obtain ⟨lw, hlw⟩ : ∃ lw, (D.sync temp (D.append room temp (F.frames ps) (D.del temp l)).2).2 = lw := ⟨_, rfl⟩
      have HWR := Lib.hid (show wrD room temp (F.frames ps) (D.del temp l) = (0, lw) by
        unfold wrD
        rw [if_pos HAP.out, ← hlw]
        exact Prod.ext (sync_ok HAP.out) rfl)
      have HILW := Lib.hid (show D.Inv room lw by rw [← hlw]; exact HID.out.append.sync)
      rw [hlw] at HRN
      clear hlw hps HAP
      go_wp2_with fail
      refine (write_l C temp ps _ 0 lw HA8.out HID.out hroom (by decide) HRD8.out HGD.out hrl2 hfl2 HWR.out).mono ?_
      rintro x w9 ⟨rfl, ⟨S9, hA9, hg9⟩, hb9⟩
      have HA9 := Lib.hid hA9
      have HG9 := Lib.hid (HGW.out.next hg9 HBW.out.size)
      have HB9 := Lib.hid (HBW.out.next hb9 HGW.out)
      clear hA9 hg9 hb9
      go_wp2_with fail
      refine (Name_l (n : Int) w9 ⟨by omega, by omega⟩ (.inr (by omega))).mono ?_
      rintro x w10 ⟨rfl, hb10⟩
      have HA10 := Lib.hid (C.below HA9.out hb10)
      have HB10 := Lib.hid (HB9.out.trans (D.But.of_below (S := S) hb10))
      have hs10 := hb10.size
      clear hb10
      go_wp2_with fail
      refine (C.rename temp (nameS (n : Int)) e l2 HA10.out HILW.out (by omega) (by decide) (by omega) HRN.out).mono ?_
      rintro x w11 ⟨rfl, ⟨S11, hA11, hg11⟩, hb11⟩
      have HR := Lib.hid (show (∃ S2, C.At bs w11 p room l2 S2 ∧ D.Grow S w S2) ∧ D.But S w w11 from ⟨⟨S11, hA11, HG9.out.next hg11 HB10.out.size⟩, HB10.out.next hb11 HG9.out⟩)
      clear hA11 hg11 hb11
      go_wp2
      go_ret
      exact ⟨rfl, HR.out⟩
  · have HC := Lib.hid hc
    have HAP := Lib.hid hap
    obtain ⟨ee, hee0⟩ : ∃ ee, (D.append room temp (segB f (upto last es0)) (D.del temp l)).1 = ee := ⟨_, rfl⟩
    have HEE0 := Lib.hid hee0
    rw [hee0]
    clear hc hap hee0
    cases t
    · go_enter Tryz.func29, Tryz.ntmps29
      go_wp2_with fail
      refine HLD.out.mono ?_
      rintro x w1 ⟨⟨v0, xs, rfl, hxs, hrow⟩, hb1⟩
      obtain ⟨a0, c0, rfl⟩ := own_slice hrow.own
      have HB1 := Lib.hid hb1
      have hal : Below w1.heap.size w1 (w1.alloc (.cells #[.int .i64 (f : Int), .slice a0 xs.length c0, .bool false] 38)) := (Below.refl _ w1).alloc (Nat.le_refl _) _
      have HB2 := Lib.hid (HB1.out.trans (hal.mono HB1.out.size))
      have HROW := Lib.hid (hrow.below hal)
      have HA2 := Lib.hid (C.below HA.out HB2.out)
      have HC0 := Lib.hid (heap_alloc_new w1 (.cells #[.int .i64 (f : Int), .slice a0 xs.length c0, .bool false] 38))
      have hxl : xs.length ≤ 100000000 := by
        have h2 := (HFA.out (by trivial)).2.1
        rw [← hxs, ensOf_len] at h2
        omega
      have HXS := Lib.hid hxs
      have hwb := HB1.out.size
      obtain ⟨b, hbe⟩ : ∃ b, w1.heap.size = b := ⟨_, rfl⟩
      rw [hbe] at HC0 hwb
      have HBE := Lib.hid hbe
      clear hbe hal hb1 hrow hxs
      go_upto_region 2 with (fail)
      rw [HBE.out]
      generalize w1.alloc (.cells #[.int .i64 (f : Int), .slice a0 xs.length c0, .bool false] 38) = W at *
      have k0 := block_cell HC0.out 0
      have k1 := block_cell HC0.out 1
      have k2 := block_cell HC0.out 2
      simp only [List.getElem?_toArray, List.getElem?_cons_zero, List.getElem?_cons_succ] at k0 k1 k2
      go_wp2_with fail
      refine (upTo_l xs a0 c0 last W hxl HROW.out.reads).mono ?_
      rintro x w3 ⟨⟨k, rfl, hk, hu⟩, hb3⟩
      have HB3 := Lib.hid (HB2.out.trans (hb3.mono HB2.out.size))
      have HA3 := Lib.hid (C.below HA2.out hb3)
      have HROW3 := Lib.hid (HROW.out.below hb3)
      have HC3 := Lib.hid (block_below HC0.out hb3)
      have HU := Lib.hid hu
      have hs3 := lt_of_block HC3.out
      clear hb3 hu HA2 HB2 HROW HC0 k0 k1 k2
      have k0 := block_cell HC3.out 0
      have k1 := block_cell HC3.out 1
      have k2 := block_cell HC3.out 2
      simp only [List.getElem?_toArray, List.getElem?_cons_zero, List.getElem?_cons_succ] at k0 k1 k2
      have hke : ((k : Int) == (xs.length : Int)) = false := by
        rw [beq_eq_false_iff_ne]
        intro h2
        refine HC.out ⟨by trivial, ?_⟩
        rw [← HXS.out, HU.out, ensOf_len, ensOf_len, List.length_take]
        omega
      obtain ⟨ed, hed⟩ : ∃ ed, (D.delete temp l).1 = ed := ⟨_, rfl⟩
      have HDL := Lib.hid (show D.delete temp l = (ed, D.del temp l) by rw [← hed, ← delete_two])
      have HID := Lib.hid (show D.Inv room (D.del temp l) from HI.out.del)
      clear hed
      go_wp2_with fail
      refine (C.delete temp ed (D.del temp l) HA3.out HI.out (by omega) (by decide) HDL.out).mono ?_
      rintro x w4 ⟨rfl, ⟨S4, hA4, hg4⟩, hb4⟩
      have HA4 := Lib.hid hA4
      have HG4 := Lib.hid (hg4.wide HB3.out.size)
      have hnS : ∀ j, w.heap.size ≤ j → ¬ S j := fun j hj hs => by have := HLOW.out j hs; omega
      have HB4 := Lib.hid ((D.But.of_below HB3.out).trans hb4)
      have HROW4 := Lib.hid (HROW3.out.but hb4 hnS)
      have HC4 := Lib.hid (but_at hb4 HC3.out (hnS b hwb))
      clear hA4 hg4 hb4 hnS k0 k1 k2 HA3 HB3 HROW3 HC3 HDL
      have k0 := block_cell HC4.out 0
      simp only [List.getElem?_toArray, List.getElem?_cons_zero] at k0
      have hfar := (HFA.out (by trivial)).1.2
      go_wp2_with fail
      refine (headOf_l f w4 hfar).mono ?_
      rintro x w5 ⟨rfl, hb5⟩
      have HA5 := Lib.hid (C.below HA4.out hb5)
      have HB5 := Lib.hid (HB4.out.trans (D.But.of_below (S := S) hb5))
      have HROW5 := Lib.hid (HROW4.out.below hb5)
      have hs45 := hb5.size
      have hws5 := HB5.out.size
      clear hb5 HA4 HB4 HROW4 HC4
      obtain ⟨hp, hhp⟩ : ∃ hp, headP f = hp := ⟨_, rfl⟩
      have HHP := Lib.hid hhp
      rw [hhp]
      have hal : Below w5.heap.size w5 (w5.alloc (.cells #[.string (B hp)] 9)) := (Below.refl _ w5).alloc (Nat.le_refl _) _
      have HOWN := Lib.hid (show (w5.alloc (.cells #[.string (B hp)] 9)).ownsRow w5.heap.size 9 1 (.slice (some ⟨w5.heap.size, 0, none⟩) 1 1) 1 [.string (B hp)] from
        ⟨rfl, .inr ⟨w5.heap.size, 1, #[.string (B hp)], rfl, Nat.le_refl _, heap_alloc_new w5 _, Nat.le_refl _, by unfold maxLen; omega, rfl, rfl⟩⟩)
      have HLT5 := Lib.hid (show ∀ j, S4 j → j < w5.heap.size from fun j hj => (C.low HA5.out hj).2)
      have HA6 := Lib.hid (C.below HA5.out hal)
      have HB6 := Lib.hid (HB5.out.trans (D.But.of_below (S := S) hal))
      have HRK := Lib.hid (readsR_take (HROW5.out.below hal).reads hk)
      have HRTK := Lib.hid (show ∀ q ∈ xs.take k, R.right q.1 = true from fun q hq => (HROW5.out.ev q (List.mem_of_mem_take hq)).2.1)
      have htl : (xs.take k).length = k := by rw [List.length_take]; omega
      have hs56 : w5.heap.size ≤ (w5.alloc (.cells #[.string (B hp)] 9)).heap.size := hal.size
      clear hal hhp HA5 HB5
      go_wp2_with fail
      refine (bodyOf_l (xs.take k) _ _ (by omega) HRK.out HRTK.out).mono ?_
      rintro x w7 ⟨⟨vb, rfl, hown⟩, hb7⟩
      rw [htl] at hown
      have HB7 := Lib.hid (HB6.out.trans (D.But.of_below (S := S) hb7))
      have HA7 := Lib.hid (C.below HA6.out hb7)
      have HRB := Lib.hid (readsC_own hown)
      have HOW7 := Lib.hid (own_below HOWN.out hb7)
      have hs67 := hb7.size
      have hpn : (strCells ((ensOf (xs.take k)).map pay)).length = k := by rw [strCells_len, List.length_map, ensOf_len, htl]
      obtain ⟨vba, vbc, rfl⟩ := own_slice hown
      clear hb7 hown HA6 HB6 HOWN HRK
      obtain ⟨i0, hi, hz0, hz1, hz2⟩ := info_parts Tryz.infoStr
      go_upto_region 9 with (at_builtin; refine wpList_append_reads rfl _ _ 65 rfl w5.heap.size 9 i0 (.string ⟨#[]⟩) 16 Tryz.underlying65 hi hz0 hz1 hz2 rfl (.slice (some ⟨w5.heap.size, 0, none⟩) 1 1) 1 [.string (B hp)] rfl HOW7.out _ _ rfl HRB.out (by intro u hu; unfold strCells at hu; obtain ⟨z, _, rfl⟩ := List.mem_map.1 hu; rfl) (by rw [hpn]; unfold maxLen; omega) (by rw [hpn]; omega) (by omega) ?_; intro v8 w8 hown8 hgrow8; rw [hpn] at hown8; have HOWN8 := Lib.hid hown8; have HGR8 := Lib.hid (show w7.grownBy w8 (some w5.heap.size) from hgrow8); obtain ⟨va8, vc8, rfl⟩ := own_slice hown8; clear hown8 hgrow8)
      have hb8 : Below w5.heap.size w7 w8 := (Below.refl w5.heap.size w7).grown HGR8.out (by omega) fun j hj => by cases hj; exact Nat.le_refl _
      have HB8 := Lib.hid (show D.But S w w8 from ⟨HGR8.out.os.trans HB7.out.os, HGR8.out.tape.trans HB7.out.tape, HGR8.out.output.trans HB7.out.output, Nat.le_trans HB7.out.size HGR8.out.size, fun j hj hs => (hb8.block j (by omega)).trans (HB7.out.block j hj hs)⟩)
      have HA8 := Lib.hid (C.keep HA7.out HGR8.out.size fun j hj => HGR8.out.block j (C.low HA7.out hj).2 fun e => by
        have h2 := HLT5.out j hj
        have h3 : w5.heap.size = j := by cases e; rfl
        omega)
      have HU2 := Lib.hid (show upto last es0 = ensOf (xs.take k) by rw [← HXS.out]; exact HU.out)
      have HSEG := Lib.hid (show segB f (ensOf (xs.take k)) = F.frames (hp :: (ensOf (xs.take k)).map pay) by unfold segB rows; rw [HHP.out])
      have hsegl : (segB f (ensOf (xs.take k))).length ≤ room := by
        have h2 := (HFA.out (by trivial)).2.2.2
        have h3 := segB_take (f := f) (es := es0) k
        rw [← HXS.out, ← ensOf_take] at h3
        rw [← HXS.out] at h2
        omega
      have hrl := frames_ge (rows f (ensOf (xs.take k)))
      have HGD := Lib.hid (show ∀ q ∈ hp :: (ensOf (xs.take k)).map pay, F.good q from fun q hq => by
        refine rows_good (n := f) (es := ensOf (xs.take k)) hfar (fun z hz => ?_) q (by unfold rows; rw [HHP.out]; exact hq)
        unfold ensOf at hz
        obtain ⟨y2, hy2, rfl⟩ := List.mem_map.1 hz
        exact HRTK.out y2 hy2)
      have HRD8 := Lib.hid (show Reads w8 (.slice va8 (1 + k) vc8) (strCells (hp :: (ensOf (xs.take k)).map pay)) from reads_own HOWN8.out)
      have hrl2 : (hp :: (ensOf (xs.take k)).map pay).length ≤ 100000000 := by
        have e1 : (rows f (ensOf (xs.take k))).length = (hp :: (ensOf (xs.take k)).map pay).length := by unfold rows; rw [HHP.out]
        have e2 : F.frames (rows f (ensOf (xs.take k))) = segB f (ensOf (xs.take k)) := rfl
        rw [e2] at hrl
        omega
      have hfl2 : (F.frames (hp :: (ensOf (xs.take k)).map pay)).length ≤ 1000000000 := by rw [← HSEG.out]; omega
      have HBW := Lib.hid (show D.But S w w8 from HB8.out)
      have HGW := Lib.hid HG4.out
      clear hrl hsegl HOW7 HRB HOWN8 HGR8 hb8 hpn htl k0 HA7 HB7 HB8 HRTK HROW5
      obtain ⟨ps, hps⟩ : ∃ ps, hp :: (ensOf (xs.take k)).map pay = ps := ⟨_, rfl⟩
      rw [hps] at HSEG HGD HRD8 hrl2 hfl2
      rw [HU2.out, HSEG.out] at HAP
      have hee : (D.append room temp (F.frames ps) (D.del temp l)).1 = ee := by
        have := HEE0.out
        rw [HU2.out, HSEG.out] at this
        exact this
      have HWR := Lib.hid (show wrD room temp (F.frames ps) (D.del temp l) = (ee, D.del temp l) by
        unfold wrD
        rw [if_neg HAP.out, hee, D.del_none (D.find_del temp l)])
      have hei : ((ee : Int) == 0) = false := beq_eq_false_iff_ne.2 (by have := HAP.out; rw [hee] at this; omega)
      have hen : ¬ (ee : Int) = 0 := by have := HAP.out; rw [hee] at this; omega
      clear hee hps HAP
      go_wp2_with fail
      refine (write_l C temp ps _ ee (D.del temp l) HA8.out HID.out hroom (by decide) HRD8.out HGD.out hrl2 hfl2 HWR.out).mono ?_
      rintro x w9 ⟨rfl, ⟨S9, hA9, hg9⟩, hb9⟩
      have HR := Lib.hid (show (∃ S2, C.At bs w9 p room (D.del temp l) S2 ∧ D.Grow S w S2) ∧ D.But S w w9 from ⟨⟨S9, hA9, HGW.out.next hg9 HBW.out.size⟩, HBW.out.next hb9 HGW.out⟩)
      clear hA9 hg9 hb9
      go_wp2
      go_ret
      exact ⟨rfl, HR.out⟩
    · go_enter Tryz.func29, Tryz.ntmps29
      go_wp2_with fail
      refine HLD.out.mono ?_
      rintro x w1 ⟨⟨v0, xs, rfl, hxs, hrow⟩, hb1⟩
      obtain ⟨a0, c0, rfl⟩ := own_slice hrow.own
      have HB1 := Lib.hid hb1
      have hal : Below w1.heap.size w1 (w1.alloc (.cells #[.int .i64 (f : Int), .slice a0 xs.length c0, .bool true] 38)) := (Below.refl _ w1).alloc (Nat.le_refl _) _
      have HB2 := Lib.hid (HB1.out.trans (hal.mono HB1.out.size))
      have HROW := Lib.hid (hrow.below hal)
      have HA2 := Lib.hid (C.below HA.out HB2.out)
      have HC0 := Lib.hid (heap_alloc_new w1 (.cells #[.int .i64 (f : Int), .slice a0 xs.length c0, .bool true] 38))
      have hxl : xs.length ≤ 100000000 := by
        have h2 := (HFA.out (by trivial)).2.1
        rw [← hxs, ensOf_len] at h2
        omega
      have HXS := Lib.hid hxs
      have hwb := HB1.out.size
      obtain ⟨b, hbe⟩ : ∃ b, w1.heap.size = b := ⟨_, rfl⟩
      rw [hbe] at HC0 hwb
      have HBE := Lib.hid hbe
      clear hbe hal hb1 hrow hxs
      go_upto_region 2 with (fail)
      rw [HBE.out]
      generalize w1.alloc (.cells #[.int .i64 (f : Int), .slice a0 xs.length c0, .bool true] 38) = W at *
      have k0 := block_cell HC0.out 0
      have k1 := block_cell HC0.out 1
      have k2 := block_cell HC0.out 2
      simp only [List.getElem?_toArray, List.getElem?_cons_zero, List.getElem?_cons_succ] at k0 k1 k2
      go_wp2_with fail
      refine (upTo_l xs a0 c0 last W hxl HROW.out.reads).mono ?_
      rintro x w3 ⟨⟨k, rfl, hk, hu⟩, hb3⟩
      have HB3 := Lib.hid (HB2.out.trans (hb3.mono HB2.out.size))
      have HA3 := Lib.hid (C.below HA2.out hb3)
      have HROW3 := Lib.hid (HROW.out.below hb3)
      have HC3 := Lib.hid (block_below HC0.out hb3)
      have HU := Lib.hid hu
      have hs3 := lt_of_block HC3.out
      clear hb3 hu HA2 HB2 HROW HC0 k0 k1 k2
      have k0 := block_cell HC3.out 0
      have k1 := block_cell HC3.out 1
      have k2 := block_cell HC3.out 2
      simp only [List.getElem?_toArray, List.getElem?_cons_zero, List.getElem?_cons_succ] at k0 k1 k2
      obtain ⟨ed, hed⟩ : ∃ ed, (D.delete temp l).1 = ed := ⟨_, rfl⟩
      have HDL := Lib.hid (show D.delete temp l = (ed, D.del temp l) by rw [← hed, ← delete_two])
      have HID := Lib.hid (show D.Inv room (D.del temp l) from HI.out.del)
      clear hed
      go_wp2_with fail
      refine (C.delete temp ed (D.del temp l) HA3.out HI.out (by omega) (by decide) HDL.out).mono ?_
      rintro x w4 ⟨rfl, ⟨S4, hA4, hg4⟩, hb4⟩
      have HA4 := Lib.hid hA4
      have HG4 := Lib.hid (hg4.wide HB3.out.size)
      have hnS : ∀ j, w.heap.size ≤ j → ¬ S j := fun j hj hs => by have := HLOW.out j hs; omega
      have HB4 := Lib.hid ((D.But.of_below HB3.out).trans hb4)
      have HROW4 := Lib.hid (HROW3.out.but hb4 hnS)
      have HC4 := Lib.hid (but_at hb4 HC3.out (hnS b hwb))
      clear hA4 hg4 hb4 hnS k0 k1 k2 HA3 HB3 HROW3 HC3 HDL
      have k0 := block_cell HC4.out 0
      simp only [List.getElem?_toArray, List.getElem?_cons_zero] at k0
      have hfar := (HFA.out (by trivial)).1.2
      go_wp2_with fail
      refine (headOf_l f w4 hfar).mono ?_
      rintro x w5 ⟨rfl, hb5⟩
      have HA5 := Lib.hid (C.below HA4.out hb5)
      have HB5 := Lib.hid (HB4.out.trans (D.But.of_below (S := S) hb5))
      have HROW5 := Lib.hid (HROW4.out.below hb5)
      have hs45 := hb5.size
      have hws5 := HB5.out.size
      clear hb5 HA4 HB4 HROW4 HC4
      obtain ⟨hp, hhp⟩ : ∃ hp, headP f = hp := ⟨_, rfl⟩
      have HHP := Lib.hid hhp
      rw [hhp]
      have hal : Below w5.heap.size w5 (w5.alloc (.cells #[.string (B hp)] 9)) := (Below.refl _ w5).alloc (Nat.le_refl _) _
      have HOWN := Lib.hid (show (w5.alloc (.cells #[.string (B hp)] 9)).ownsRow w5.heap.size 9 1 (.slice (some ⟨w5.heap.size, 0, none⟩) 1 1) 1 [.string (B hp)] from
        ⟨rfl, .inr ⟨w5.heap.size, 1, #[.string (B hp)], rfl, Nat.le_refl _, heap_alloc_new w5 _, Nat.le_refl _, by unfold maxLen; omega, rfl, rfl⟩⟩)
      have HLT5 := Lib.hid (show ∀ j, S4 j → j < w5.heap.size from fun j hj => (C.low HA5.out hj).2)
      have HA6 := Lib.hid (C.below HA5.out hal)
      have HB6 := Lib.hid (HB5.out.trans (D.But.of_below (S := S) hal))
      have HRK := Lib.hid (readsR_take (HROW5.out.below hal).reads hk)
      have HRTK := Lib.hid (show ∀ q ∈ xs.take k, R.right q.1 = true from fun q hq => (HROW5.out.ev q (List.mem_of_mem_take hq)).2.1)
      have htl : (xs.take k).length = k := by rw [List.length_take]; omega
      have hs56 : w5.heap.size ≤ (w5.alloc (.cells #[.string (B hp)] 9)).heap.size := hal.size
      clear hal hhp HA5 HB5
      go_wp2_with fail
      refine (bodyOf_l (xs.take k) _ _ (by omega) HRK.out HRTK.out).mono ?_
      rintro x w7 ⟨⟨vb, rfl, hown⟩, hb7⟩
      rw [htl] at hown
      have HB7 := Lib.hid (HB6.out.trans (D.But.of_below (S := S) hb7))
      have HA7 := Lib.hid (C.below HA6.out hb7)
      have HRB := Lib.hid (readsC_own hown)
      have HOW7 := Lib.hid (own_below HOWN.out hb7)
      have hs67 := hb7.size
      have hpn : (strCells ((ensOf (xs.take k)).map pay)).length = k := by rw [strCells_len, List.length_map, ensOf_len, htl]
      obtain ⟨vba, vbc, rfl⟩ := own_slice hown
      clear hb7 hown HA6 HB6 HOWN HRK
      obtain ⟨i0, hi, hz0, hz1, hz2⟩ := info_parts Tryz.infoStr
      go_upto_region 9 with (at_builtin; refine wpList_append_reads rfl _ _ 65 rfl w5.heap.size 9 i0 (.string ⟨#[]⟩) 16 Tryz.underlying65 hi hz0 hz1 hz2 rfl (.slice (some ⟨w5.heap.size, 0, none⟩) 1 1) 1 [.string (B hp)] rfl HOW7.out _ _ rfl HRB.out (by intro u hu; unfold strCells at hu; obtain ⟨z, _, rfl⟩ := List.mem_map.1 hu; rfl) (by rw [hpn]; unfold maxLen; omega) (by rw [hpn]; omega) (by omega) ?_; intro v8 w8 hown8 hgrow8; rw [hpn] at hown8; have HOWN8 := Lib.hid hown8; have HGR8 := Lib.hid (show w7.grownBy w8 (some w5.heap.size) from hgrow8); obtain ⟨va8, vc8, rfl⟩ := own_slice hown8; clear hown8 hgrow8)
      have hb8 : Below w5.heap.size w7 w8 := (Below.refl w5.heap.size w7).grown HGR8.out (by omega) fun j hj => by cases hj; exact Nat.le_refl _
      have HB8 := Lib.hid (show D.But S w w8 from ⟨HGR8.out.os.trans HB7.out.os, HGR8.out.tape.trans HB7.out.tape, HGR8.out.output.trans HB7.out.output, Nat.le_trans HB7.out.size HGR8.out.size, fun j hj hs => (hb8.block j (by omega)).trans (HB7.out.block j hj hs)⟩)
      have HA8 := Lib.hid (C.keep HA7.out HGR8.out.size fun j hj => HGR8.out.block j (C.low HA7.out hj).2 fun e => by
        have h2 := HLT5.out j hj
        have h3 : w5.heap.size = j := by cases e; rfl
        omega)
      have HU2 := Lib.hid (show upto last es0 = ensOf (xs.take k) by rw [← HXS.out]; exact HU.out)
      have HSEG := Lib.hid (show segB f (ensOf (xs.take k)) = F.frames (hp :: (ensOf (xs.take k)).map pay) by unfold segB rows; rw [HHP.out])
      have hsegl : (segB f (ensOf (xs.take k))).length ≤ room := by
        have h2 := (HFA.out (by trivial)).2.2.2
        have h3 := segB_take (f := f) (es := es0) k
        rw [← HXS.out, ← ensOf_take] at h3
        rw [← HXS.out] at h2
        omega
      have hrl := frames_ge (rows f (ensOf (xs.take k)))
      have HGD := Lib.hid (show ∀ q ∈ hp :: (ensOf (xs.take k)).map pay, F.good q from fun q hq => by
        refine rows_good (n := f) (es := ensOf (xs.take k)) hfar (fun z hz => ?_) q (by unfold rows; rw [HHP.out]; exact hq)
        unfold ensOf at hz
        obtain ⟨y2, hy2, rfl⟩ := List.mem_map.1 hz
        exact HRTK.out y2 hy2)
      have HRD8 := Lib.hid (show Reads w8 (.slice va8 (1 + k) vc8) (strCells (hp :: (ensOf (xs.take k)).map pay)) from reads_own HOWN8.out)
      have hrl2 : (hp :: (ensOf (xs.take k)).map pay).length ≤ 100000000 := by
        have e1 : (rows f (ensOf (xs.take k))).length = (hp :: (ensOf (xs.take k)).map pay).length := by unfold rows; rw [HHP.out]
        have e2 : F.frames (rows f (ensOf (xs.take k))) = segB f (ensOf (xs.take k)) := rfl
        rw [e2] at hrl
        omega
      have hfl2 : (F.frames (hp :: (ensOf (xs.take k)).map pay)).length ≤ 1000000000 := by rw [← HSEG.out]; omega
      have HBW := Lib.hid (show D.But S w w8 from HB8.out)
      have HGW := Lib.hid HG4.out
      clear hrl hsegl HOW7 HRB HOWN8 HGR8 hb8 hpn htl k0 HA7 HB7 HB8 HRTK HROW5
      obtain ⟨ps, hps⟩ : ∃ ps, hp :: (ensOf (xs.take k)).map pay = ps := ⟨_, rfl⟩
      rw [hps] at HSEG HGD HRD8 hrl2 hfl2
      rw [HU2.out, HSEG.out] at HAP
      have hee : (D.append room temp (F.frames ps) (D.del temp l)).1 = ee := by
        have := HEE0.out
        rw [HU2.out, HSEG.out] at this
        exact this
      have HWR := Lib.hid (show wrD room temp (F.frames ps) (D.del temp l) = (ee, D.del temp l) by
        unfold wrD
        rw [if_neg HAP.out, hee, D.del_none (D.find_del temp l)])
      have hei : ((ee : Int) == 0) = false := beq_eq_false_iff_ne.2 (by have := HAP.out; rw [hee] at this; omega)
      have hen : ¬ (ee : Int) = 0 := by have := HAP.out; rw [hee] at this; omega
      clear hee hps HAP
      go_wp2_with fail
      refine (write_l C temp ps _ ee (D.del temp l) HA8.out HID.out hroom (by decide) HRD8.out HGD.out hrl2 hfl2 HWR.out).mono ?_
      rintro x w9 ⟨rfl, ⟨S9, hA9, hg9⟩, hb9⟩
      have HR := Lib.hid (show (∃ S2, C.At bs w9 p room (D.del temp l) S2 ∧ D.Grow S w S2) ∧ D.But S w w9 from ⟨⟨S9, hA9, HGW.out.next hg9 HBW.out.size⟩, HBW.out.next hb9 HGW.out⟩)
      clear hA9 hg9 hb9
      go_wp2
      go_ret
      exact ⟨rfl, HR.out⟩
/-- The landed package, over any disk that keeps its contracts. -/
theorem landed (C : D.DC) : SC C where
  name := fun {w} z hz hT => Name_l z w hz hT
  number := fun {w} s hs hT => Number_l s w hs hT
  create := fun n first e l2 hA hI hr _ h1 h9 hf H => Create_l C n first e l2 hA hI hr h1 h9 hf H
  add := fun n es v e l2 hA hI hr _ h1 h9 hv hl hs H => Add_l C n es v e l2 hA hI hr h1 h9 hv hl hs H
  load := fun {bs w p room l S} n e f es t hA hI hr _ h9 H => (Load_x C n e f es t hA hI hr h9 H).mono fun x w' ⟨⟨v, xs, a, b, c⟩, d⟩ =>
    ⟨⟨v, xs, a, b, fun w2 hb => (c.but hb fun k hk hs => by have := (C.low hA hs).2; omega).reads⟩, d⟩
  cut := fun n last e l2 hA hI hr _ h1 h9 _ H => Cut_l C n last e l2 hA hI hr h1 h9 H
end Go.Proofs.YtpdnbpihkiijkaaGreatDoor.G
