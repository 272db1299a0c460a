/-
  Own texts, joined: SegCode6 SegCode7 SegCode8 SegCode9 SegCode10 SegRefBytes SegRefMake SegRefLoad SegRefLoad2 SegRefLoad3 SegRefLoad4 SegRefAdd SegRefCut SegAlike SegGoes1 SegCode11 SegCode12 SegCode13
-/
import Derived.Test.YtmfhipjceeijmaaGreatDoorBun40
import Derived.Test.YtmfhipjceeijmaaGreatDoorBun35
import Derived.Test.YtmfhipjceeijmaaGreatDoorBun34
import Derived.Test.YtmfhipjceeijmaaGreatDoorBun30
import Derived.Test.YtmfhipjceeijmaaGreatDoorBun33
import Derived.Test.YtmfhipjceeijmaaGreatDoorBun11
import Derived.Test.YtmfhipjceeijmaaGreatDoorBun25
import Derived.Deep.AppendLies
import Derived.Deep.RegionLaw
import Derived.Test.YtmfhipjceeijmaaGreatDoorBun13
import Derived.Test.YtmfhipjceeijmaaGreatDoorBun27
import Derived.Test.YtmfhipjceeijmaaGreatDoorBun21

/-
  The segment package: entries; the row of entries that Load collects.
-/
namespace Go.Proofs.YtmfhipjceeijmaaGreatDoor.G
open Go.RowKit Go.Shelf
open D (dP)
attribute [local go_sem] Oper.semAt_some ext_Bd ext_Bl ext_Bt toList_B add_B size_B get_Bt

set_option maxRecDepth 100000 in
set_option maxHeartbeats 1000000 in
theorem entries_in (n : Nat) (a : Option Addr) (m c : Nat) (first : Int) (w : World) :
    CallsIn Fence.wide n Tryz.prog 42 #[.slice a m c, .int .i64 first] w fun e w' => e = .returned (.func (.func 74) #[] #[.pointer (some ⟨w.heap.size + 1, 0, none⟩), .pointer (some ⟨w.heap.size, 0, none⟩)]) ∧ w' = (w.alloc (.cells #[.slice a m c] 67)).alloc (.cells #[.int .i64 first] 3) := by
  refine callsIn_of_wp Tryz.func42 rfl trivial ?_ rfl
  simp only [Tryz.ntmps42, List.size_toArray, List.length_cons, List.length_nil, Nat.reduceAdd, Nat.reduceSub, Array.replicate_succ, Array.replicate_zero, List.push_toArray, List.append_toArray, List.nil_append, List.cons_append]
  gi_wp2
  go_ret
  exact ⟨rfl, rfl⟩

/-- A row of entries, and their events, that lie from base on. -/
structure RowX (base : Nat) (v : Value) (wr : World) (es : List EV) : Prop where
  own : wr.ownsRow base 53 7 v es.length (enCells es)
  ev : ∀ p ∈ es, i64B p.1.pos ∧ R.right p.1 = true ∧ wr.ownsRow base 92 2 p.2 p.1.b.events.length (evCells p.1.b.events)
theorem RowX.nil (base : Nat) (wr : World) : RowX base (.slice none 0 0) wr [] := ⟨World.ownsRow_nil _ _ _ _, fun p hp => by cases hp⟩
theorem RowX.reads {base : Nat} {v : Value} {wr : World} {es : List EV} (h : RowX base v wr es) : ReadsR wr v es :=
  readsR_own h.own fun p hp => ⟨readsE_own (h.ev p hp).2.2, (h.ev p hp).1⟩
theorem own_cells {w w' : World} {base e s n : Nat} {v : Value} {xs : List Value} (h : w.ownsRow base e s v n xs) (hk : ∀ k cs t fr, base ≤ k → w.heap[k]? = some (.cells cs t fr) → w'.heap[k]? = w.heap[k]?) : w'.ownsRow base e s v n xs := by
  refine ⟨h.1, ?_⟩
  rcases h.2 with h2 | ⟨g, cap, cur, rfl, hb, hg, hr⟩
  · exact .inl h2
  · exact .inr ⟨g, cap, cur, rfl, hb, (hk _ _ _ _ hb hg).trans hg, hr⟩
/-- All blocks of cells from base on stay. -/
theorem RowX.keep {base : Nat} {v : Value} {wr w' : World} {es : List EV} (h : RowX base v wr es) (hk : ∀ k cs t fr, base ≤ k → wr.heap[k]? = some (.cells cs t fr) → w'.heap[k]? = wr.heap[k]?) : RowX base v w' es :=
  ⟨own_cells h.own hk, fun p hp => ⟨(h.ev p hp).1, (h.ev p hp).2.1, own_cells (h.ev p hp).2.2 hk⟩⟩
/-- A row that lies from lim on is kept by what keeps the blocks from lim on. -/
theorem RowX.keep_from {base lim : Nat} {v : Value} {wr w' : World} {es : List EV} (_ : RowX base v wr es) (h : RowX lim v wr es) (hk : ∀ k cs t fr, lim ≤ k → wr.heap[k]? = some (.cells cs t fr) → w'.heap[k]? = wr.heap[k]?) (hbl : base ≤ lim := by omega) : RowX base v w' es := by
  have h2 := h.keep hk
  exact ⟨own_base5 h2.own hbl, fun p hp => ⟨(h2.ev p hp).1, (h2.ev p hp).2.1, own_base5 (h2.ev p hp).2.2 hbl⟩⟩
theorem RowX.below {base : Nat} {v : Value} {wr w' : World} {es : List EV} (h : RowX base v wr es) (hb : Below wr.heap.size wr w') : RowX base v w' es :=
  h.keep fun k _ _ _ _ hk => hb.block k (Array.getElem?_eq_some_iff.1 hk).1
theorem RowX.but {base : Nat} {v : Value} {wr w' : World} {es : List EV} {S : Nat → Prop} (h : RowX base v wr es) (hb : D.But S wr w') (hs : ∀ k, base ≤ k → ¬ S k) : RowX base v w' es :=
  h.keep fun k _ _ _ h1 hk => hb.block k (Array.getElem?_eq_some_iff.1 hk).1 (hs k h1)
theorem RowX.next {base : Nat} {wr w' : World} {v v' u : Value} {es : List EV} {e : R.En} {o : Obj} (h : RowX base v wr es) (hp : i64B e.pos) (hr : R.right e = true) (he : wr.ownsRow base 92 2 u e.b.events.length (evCells e.b.events)) (hown : w'.ownsRow base 53 7 v' (es.length + 1) (enCells es ++ evCells7 (e, u))) (hg : (wr.alloc o).grownBy w' v.ownBlock) : RowX base v' w' (es ++ [(e, u)]) := by
  refine ⟨by rw [enCells_snoc, List.length_append]; exact hown, fun p hp2 => ?_⟩
  rcases List.mem_append.1 hp2 with hp2 | hp2
  · obtain ⟨h1, h2, h3⟩ := h.ev p hp2
    exact ⟨h1, h2, ev_kept h3 h.own hg⟩
  · rw [List.mem_singleton] at hp2
    subst hp2
    exact ⟨hp, hr, ev_kept he h.own hg⟩
theorem RowX.held {base k off n c : Nat} {v : Value} {wr : World} {es : List EV} (h : RowX base v wr es) (he : v = .slice (some ⟨k, off, none⟩) n c) : base ≤ k ∧ k < wr.heap.size := by
  rcases h.own.2 with ⟨h2, _⟩ | ⟨g, cap, cur, h2, hb, hg, _⟩
  · rw [he] at h2; cases h2
  · rw [he] at h2; cases h2
    exact ⟨hb, (Array.getElem?_eq_some_iff.1 hg).1⟩
theorem cells_grown {B : Nat} {W W' : World} {row : Option Nat} (hg : W.grownBy W' row) (hr : ∀ r, row = some r → B ≤ r ∧ ∃ o : Obj, W.heap[r]? = some o ∧ o.isCells = false) {k : Nat} {cs : Array Value} {t : TypeId} {fr : Nat × Nat} (h : W.heap[k]? = some (.cells cs t fr)) : W'.heap[k]? = W.heap[k]? :=
  hg.block k (Array.getElem?_eq_some_iff.1 h).1 fun e => by
    obtain ⟨_, o, ho, hc⟩ := hr k e.symm
    rw [h] at ho
    cases ho
    cases hc

abbrev segObj (first : Int) (v : Value) (t : Bool) : Obj := .cells #[.int .i64 first, v, .bool t] 38 (0, 0)
/-- Between two rounds of Load: the segment's block b, the result's block g, the row. -/
def LoadI (w0 : World) (lim b g : Nat) (first : Int) (pre : List EV) (W : World) : Prop :=
  ∃ v, W.heap[b]? = some (segObj first v false) ∧ RowX lim v W pre ∧ W.heap[g]? = some (segObj 0 (.slice none 0 0) false) ∧ lim ≤ W.heap.size ∧ Below w0.heap.size w0 W
theorem LoadI.own (w0 : World) (lim b g : Nat) (first : Int) (h : w0.heap.size ≤ lim) : OwnFrom lim (LoadI w0 lim b g first) := by
  rintro pre W W' row ⟨v, h1, h2, h3, h4, h5⟩ hg hr
  refine ⟨v, (cells_grown hg hr h1).trans h1, h2.keep fun _ _ _ _ _ hk => cells_grown hg hr hk, (cells_grown hg hr h3).trans h3, Nat.le_trans h4 hg.size, ?_⟩
  refine h5.grown hg h5.size fun k e => ?_
  have := (hr k e).1
  omega
theorem own_lt {w : World} {base e s n k : Nat} {v : Value} {xs : List Value} (h : w.ownsRow base e s v n xs) (hk : v.ownBlock = some k) : base ≤ k ∧ k < w.heap.size ∧ ∃ cs, w.heap[k]? = some (.cells cs e (0, 0)) := by
  rcases h.2 with ⟨h2, _⟩ | ⟨g, cap, cur, h2, hb, hg, _⟩
  · rw [h2] at hk; cases hk
  · rw [h2] at hk
    have : g = k := by simpa [Value.ownBlock] using hk
    subst this
    exact ⟨hb, (Array.getElem?_eq_some_iff.1 hg).1, cur, hg⟩
theorem own_form {w : World} {base e s n k : Nat} {v : Value} {xs : List Value} (h : w.ownsRow base e s v n xs) (hk : v.ownBlock = some k) : ∃ c, v = .slice (some ⟨k, 0, none⟩) n c := by
  rcases h.2 with ⟨h2, _⟩ | ⟨g, cap, cur, h2, hb, hg, _⟩
  · rw [h2] at hk; cases hk
  · rw [h2] at hk
    have : g = k := by simpa [Value.ownBlock] using hk
    subst this
    exact ⟨cap, h2⟩
theorem own_slice {w : World} {base e s n : Nat} {v : Value} {xs : List Value} (h : w.ownsRow base e s v n xs) : ∃ a c, v = .slice a n c := by
  rcases h.2 with ⟨h2, h0⟩ | ⟨g, cap, cur, h2, _⟩
  · exact ⟨none, 0, by rw [h2, h0]⟩
  · exact ⟨_, cap, h2⟩
/-- A round's end: the entry was appended, the row stored in the segment's block. -/
theorem load_step {w W2 w9 : World} {lim b g : Nat} {f : Int} {v v' u : Value} {pre : List EV} {e : R.En} {Y : Obj} (hbl : b < lim) (hwg : w.heap.size ≤ g) (hgb : g < b) (hv : W2.heap[b]? = some (segObj f v false)) (hrow : RowX lim v W2 pre) (hg : W2.heap[g]? = some (segObj 0 (.slice none 0 0) false)) (hsz : lim ≤ W2.heap.size) (hB : Below w.heap.size w W2)
    (hp : i64B e.pos) (hr : R.right e = true) (hev : W2.ownsRow lim 92 2 u e.b.events.length (evCells e.b.events))
    (hown : w9.ownsRow lim 53 7 v' (pre.length + 1) (enCells pre ++ evCells7 (e, u))) (hgrow : (W2.alloc Y).grownBy w9 v.ownBlock) :
    LoadI w lim b g f (pre ++ [(e, u)]) (w9.setCell ⟨b, 1, none⟩ v') ∧ (∀ k o, W2.heap[k]? = some o → k ≠ b → v.ownBlock ≠ some k → (w9.setCell ⟨b, 1, none⟩ v').heap[k]? = some o) ∧
      (∀ k, Held b (w9.setCell ⟨b, 1, none⟩ v') k → lim ≤ k ∧ k < (w9.setCell ⟨b, 1, none⟩ v').heap.size) ∧ W2.heap.size ≤ (w9.setCell ⟨b, 1, none⟩ v').heap.size ∧ w9.heap[b]? = some (segObj f v false) := by
  have key : ∀ k o, W2.heap[k]? = some o → v.ownBlock ≠ some k → w9.heap[k]? = some o := fun k o hk hne => by
    have hl := lt_of_block hk
    rw [hgrow.block k (by simp; omega) (fun e => hne e.symm), Below.heap_alloc _ _ _ hl]
    exact hk
  have hnb : v.ownBlock ≠ some b := fun h => by have := (own_lt hrow.own h).1; omega
  have hng : v.ownBlock ≠ some g := fun h => by have := (own_lt hrow.own h).1; omega
  have hv9 := key b _ hv hnb
  have hsz9 : W2.heap.size ≤ w9.heap.size := by have := hgrow.size; simp at this; omega
  have hsame : ∀ k, k ≠ b → (w9.setCell ⟨b, 1, none⟩ v').heap[k]? = w9.heap[k]? := fun k hk => Below.heap_setCell _ _ _ _ hk
  have hrow9 := hrow.next hp hr hev hown hgrow
  have hE : (w9.setCell ⟨b, 1, none⟩ v').heap[b]? = some (segObj f v' false) := set_block hv9 1 v'
  refine ⟨⟨v', hE, hrow9.keep fun k _ _ _ hk _ => hsame k (by omega), ?_, ?_, ?_⟩, fun k o hk h1 h2 => (hsame k h1).trans (key k o hk h2), fun k hk => ?_, ?_, hv9⟩
  · rw [hsame g (by omega)]; exact key g _ hg hng
  · simp; omega
  · have hbg : Below w.heap.size w w9 := (hB.alloc hB.size Y).grown hgrow (by have := hB.size; simp; omega) fun k e => by
      have := (own_lt hrow.own e).1
      omega
    exact hbg.setCell (p := ⟨b, 1, none⟩) (by show w.heap.size ≤ b; omega) v'
  · obtain ⟨off, n, c, hc⟩ := hk
    have h1 := block_cell hE 1
    rw [hc] at h1
    have h2 : v' = .slice (some ⟨k, off, none⟩) n c := by simpa using h1.symm
    have := RowX.held ⟨by rw [List.length_append, enCells_snoc]; exact hown, fun p hp2 => (hrow9.ev p hp2)⟩ h2
    simp
    exact this
  · simp; omega
end Go.Proofs.YtmfhipjceeijmaaGreatDoor.G

/-
  The segment package: Load, where it errs.
-/
namespace Go.Proofs.YtmfhipjceeijmaaGreatDoor.G
open Go.RowKit Go.Shelf
open D (dP)
attribute [local go_sem] ext_Bd ext_Bl ext_Bt toList_B add_B size_B get_Bt

theorem set_three {w : World} {g : Nat} {x0 x1 x2 : Value} {t : TypeId} (a0 a1 a2 : Value) (h : w.heap[g]? = some (.cells #[x0, x1, x2] t (0, 0))) :
    (((w.setCell ⟨g, 0, none⟩ a0).setCell ⟨g, 1, none⟩ a1).setCell ⟨g, 2, none⟩ a2).heap[g]? = some (.cells #[a0, a1, a2] t (0, 0)) := by
  have h1 : (w.setCell ⟨g, 0, none⟩ a0).heap[g]? = some (.cells #[a0, x1, x2] t (0, 0)) := set_block h 0 a0
  generalize w.setCell ⟨g, 0, none⟩ a0 = w1 at h1 ⊢
  have h2 : (w1.setCell ⟨g, 1, none⟩ a1).heap[g]? = some (.cells #[a0, a1, x2] t (0, 0)) := set_block h1 1 a1
  generalize w1.setCell ⟨g, 1, none⟩ a1 = w2 at h2 ⊢
  exact set_block h2 2 a2
theorem below_three {w w' : World} {g : Nat} (h : Below w.heap.size w w') (hg : w.heap.size ≤ g) (a0 a1 a2 : Value) :
    Below w.heap.size w (((w'.setCell ⟨g, 0, none⟩ a0).setCell ⟨g, 1, none⟩ a1).setCell ⟨g, 2, none⟩ a2) :=
  ((h.setCell (p := ⟨g, 0, none⟩) hg a0).setCell (p := ⟨g, 1, none⟩) hg a1).setCell (p := ⟨g, 2, none⟩) hg a2

set_option maxRecDepth 100000 in
set_option maxHeartbeats 4000000 in
theorem load_none (C : D.DC) {bs : Nat} {w : World} {p room : Nat} {l : List D.F} {S : Nat → Prop} (n : Nat) (hA : C.At bs w p room l S) (hI : D.Inv room l) (hroom : room ≤ 100000000) (hn : n ≤ 9) (hfind : D.find (nameS n) l = none) :
    Calls Tryz.prog 10 #[dP p, .int .i64 (n : Int)] w fun x w' => x = .returned (.tuple #[.agg #[.int .i64 0, .slice none 0 0, .bool false], .int .i64 6]) ∧ Below w.heap.size w w' := by
  have HRD := Lib.hid (show D.read (nameS n) l = ([], 6) by unfold D.read; rw [hfind])
  have HB0 : Hid (Below w.heap.size w (w.alloc (.cells #[.int .i64 0, .slice none 0 0, .bool false] 38))) := Lib.hid ((Below.refl _ w).alloc (Nat.le_refl _) _)
  have HG0 : Hid ((w.alloc (.cells #[.int .i64 0, .slice none 0 0, .bool false] 38)).heap[w.heap.size]? = some (segObj 0 (.slice none 0 0) false)) := Lib.hid (heap_alloc_new w _)
  have HNL := Lib.hid (name_len (n : Int))
  obtain ⟨nm, hnm⟩ : ∃ nm, nameS (n : Int) = nm := ⟨_, rfl⟩
  have HNM := Lib.hid hnm
  rw [hnm] at HNL HRD
  have hnl := HNL.out
  have HA := Lib.hid hA
  have HI := Lib.hid hI
  clear hA hI hnm HNL hfind
  go_enter Tryz.func10, Tryz.ntmps10
  go_wp2_with fail
  generalize w.alloc (.cells #[.int .i64 0, .slice none 0 0, .bool false] 38) = W0 at *
  refine (Name_l (n : Int) W0 ⟨by omega, by omega⟩ (.inr (by omega))).mono ?_
  rw [HNM.out]
  rintro x w1 ⟨rfl, hb1⟩
  have HB1 := Lib.hid (HB0.out.trans (hb1.mono HB0.out.size))
  have HG1 := Lib.hid (block_below HG0.out hb1)
  have HA1 := Lib.hid (C.below HA.out HB1.out)
  clear hb1
  go_wp2_with fail
  refine (C.read nm [] 6 HA1.out HI.out (by omega) (by omega) HRD.out).mono ?_
  rintro x w2 ⟨rfl, hb2⟩
  have HB2 := Lib.hid (HB1.out.trans (hb2.mono HB1.out.size))
  have HG2 := Lib.hid (block_below HG1.out hb2)
  clear hb2
  have g0 := block_cell HG2.out 0
  have g1 := block_cell HG2.out 1
  have g2 := block_cell HG2.out 2
  simp only [List.getElem?_toArray, List.getElem?_cons_zero, List.getElem?_cons_succ] at g0 g1 g2
  have l0 := block_loose HG2.out 0
  have l1 := block_loose HG2.out 1
  have l2 := block_loose HG2.out 2
  go_wp2
  have HK := Lib.hid (set_three (.int .i64 0) (.slice none 0 0) (.bool false) HG2.out)
  have HB9 := Lib.hid (below_three HB2.out (Nat.le_refl _) (.int .i64 0) (.slice none 0 0) (.bool false))
  generalize ((w2.setCell ⟨w.heap.size, 0, none⟩ (.int .i64 0)).setCell ⟨w.heap.size, 1, none⟩ (.slice none 0 0)).setCell ⟨w.heap.size, 2, none⟩ (.bool false) = w9 at HK HB9 ⊢
  have k0 := block_cell HK.out 0
  have k1 := block_cell HK.out 1
  have k2 := block_cell HK.out 2
  simp only [List.getElem?_toArray, List.getElem?_cons_zero, List.getElem?_cons_succ] at k0 k1 k2
  exact bodyPost_ret (v := .tuple #[.agg #[.int .i64 0, .slice none 0 0, .bool false], .int .i64 6]) (by simp [results, Tryz.results10, go_sem, k0, k1, k2]) rfl ⟨rfl, HB9.out⟩

/-- What is scanned are payloads. -/
theorem scan_good : ∀ (k : Nat) (s : Tx), s.length ≤ k → ∀ q ∈ (F.scan s).1, F.good q
  | 0, s, h => by
    have : s = [] := List.eq_nil_of_length_eq_zero (by omega)
    subst this
    rw [F.scan_bad (F.take_few (by simp))]
    intro q hq
    cases hq
  | k + 1, s, h => by
    rcases F.take_cases s with ⟨e, he, _⟩ | ⟨p, r, he⟩
    · rw [F.scan_bad he]
      intro q hq
      cases hq
    · have hi := F.take_inv he
      have hl : s.length = p.length + 8 + r.length := by rw [hi.1, List.length_append, F.frame_len]
      rw [F.scan_ok he]
      intro q hq
      rcases List.mem_cons.1 hq with rfl | hq
      · exact hi.2
      · exact scan_good k r (by omega) q hq
theorem inv_data {room : Nat} {l : List D.F} {nm s : Tx} {y : Nat} (hI : D.Inv room l) (h : D.find nm l = some ⟨nm, s, y⟩) : s.length ≤ room := by
  have h1 := D.used_del (n := nm) hI.sorted
  have h2 := hI.room
  rw [h] at h1
  have h3 : D.lenAt (some (⟨nm, s, y⟩ : D.F)) = s.length := rfl
  omega

set_option maxRecDepth 100000 in
set_option maxHeartbeats 4000000 in
theorem load_noscan (C : D.DC) {bs : Nat} {w : World} {p room : Nat} {l : List D.F} {S : Nat → Prop} (n : Nat) (hA : C.At bs w p room l S) (hI : D.Inv room l) (hroom : room ≤ 100000000) (hn : n ≤ 9) (s : Tx) (y : Nat) (hfind : D.find (nameS n) l = some ⟨nameS n, s, y⟩) (hs : (F.scan s).1 = []) :
    Calls Tryz.prog 10 #[dP p, .int .i64 (n : Int)] w fun x w' => x = .returned (.tuple #[.agg #[.int .i64 0, .slice none 0 0, .bool false], .int .i64 2]) ∧ Below w.heap.size w w' := by
  have hsl : s.length ≤ 100000000 := by
    have := inv_data hI hfind
    omega
  have HRD := Lib.hid (show D.read (nameS n) l = (s, 0) by unfold D.read; rw [hfind])
  have HS := Lib.hid hs
  have HB0 : Hid (Below w.heap.size w (w.alloc (.cells #[.int .i64 0, .slice none 0 0, .bool false] 38))) := Lib.hid ((Below.refl _ w).alloc (Nat.le_refl _) _)
  have HG0 : Hid ((w.alloc (.cells #[.int .i64 0, .slice none 0 0, .bool false] 38)).heap[w.heap.size]? = some (segObj 0 (.slice none 0 0) false)) := Lib.hid (heap_alloc_new w _)
  have HNL := Lib.hid (name_len (n : Int))
  obtain ⟨nm, hnm⟩ : ∃ nm, nameS (n : Int) = nm := ⟨_, rfl⟩
  have HNM := Lib.hid hnm
  rw [hnm] at HNL HRD
  have hnl := HNL.out
  have HA := Lib.hid hA
  have HI := Lib.hid hI
  clear hA hI hnm HNL hfind hs
  go_enter Tryz.func10, Tryz.ntmps10
  go_wp2_with fail
  generalize w.alloc (.cells #[.int .i64 0, .slice none 0 0, .bool false] 38) = W0 at *
  refine (Name_l (n : Int) W0 ⟨by omega, by omega⟩ (.inr (by omega))).mono ?_
  rw [HNM.out]
  rintro x w1 ⟨rfl, hb1⟩
  have HB1 := Lib.hid (HB0.out.trans (hb1.mono HB0.out.size))
  have HG1 := Lib.hid (block_below HG0.out hb1)
  have HA1 := Lib.hid (C.below HA.out HB1.out)
  clear hb1
  go_wp2_with fail
  refine (C.read nm s 0 HA1.out HI.out (by omega) (by omega) HRD.out).mono ?_
  rintro x w3 ⟨rfl, hb3⟩
  have HB3 := Lib.hid (HB1.out.trans (hb3.mono HB1.out.size))
  have HG3 := Lib.hid (block_below HG1.out hb3)
  clear hb3 HB1 HG1
  go_wp2_with fail
  refine (FScan_l s w3 (by omega)).mono ?_
  rw [HS.out]
  rintro x w2 ⟨v, rfl, how, hb2⟩
  obtain ⟨a, cp, rfl, _⟩ := reads_own how
  simp only [strCells_len, List.length_nil]
  have HB2 := Lib.hid (HB3.out.trans (hb2.mono HB3.out.size))
  have HG2 := Lib.hid (block_below HG3.out hb2)
  clear hb2 how
  have g0 := block_cell HG2.out 0
  have g1 := block_cell HG2.out 1
  have g2 := block_cell HG2.out 2
  simp only [List.getElem?_toArray, List.getElem?_cons_zero, List.getElem?_cons_succ] at g0 g1 g2
  have l0 := block_loose HG2.out 0
  have l1 := block_loose HG2.out 1
  have l2 := block_loose HG2.out 2
  go_wp2
  have HK := Lib.hid (set_three (.int .i64 0) (.slice none 0 0) (.bool false) HG2.out)
  have HB9 := Lib.hid (below_three HB2.out (Nat.le_refl _) (.int .i64 0) (.slice none 0 0) (.bool false))
  generalize ((w2.setCell ⟨w.heap.size, 0, none⟩ (.int .i64 0)).setCell ⟨w.heap.size, 1, none⟩ (.slice none 0 0)).setCell ⟨w.heap.size, 2, none⟩ (.bool false) = w9 at HK HB9 ⊢
  have k0 := block_cell HK.out 0
  have k1 := block_cell HK.out 1
  have k2 := block_cell HK.out 2
  simp only [List.getElem?_toArray, List.getElem?_cons_zero, List.getElem?_cons_succ] at k0 k1 k2
  exact bodyPost_ret (v := .tuple #[.agg #[.int .i64 0, .slice none 0 0, .bool false], .int .i64 2]) (by simp [results, Tryz.results10, go_sem, k0, k1, k2]) rfl ⟨rfl, HB9.out⟩

set_option maxRecDepth 100000 in
set_option maxHeartbeats 4000000 in
theorem load_nohead (C : D.DC) {bs : Nat} {w : World} {p room : Nat} {l : List D.F} {S : Nat → Prop} (n : Nat) (hA : C.At bs w p room l S) (hI : D.Inv room l) (hroom : room ≤ 100000000) (hn : n ≤ 9) (s : Tx) (y : Nat) (q : Tx) (qs : List Tx) (hfind : D.find (nameS n) l = some ⟨nameS n, s, y⟩) (hs : (F.scan s).1 = q :: qs) (hq : headOf q = none) :
    Calls Tryz.prog 10 #[dP p, .int .i64 (n : Int)] w fun x w' => x = .returned (.tuple #[.agg #[.int .i64 0, .slice none 0 0, .bool false], .int .i64 2]) ∧ Below w.heap.size w w' := by
  have hsl : s.length ≤ 100000000 := by
    have := inv_data hI hfind
    omega
  have HRD := Lib.hid (show D.read (nameS n) l = (s, 0) by unfold D.read; rw [hfind])
  have HS := Lib.hid hs
  have HQ := Lib.hid hq
  have hql : q.length ≤ 100000 := by have := scan_good s.length s (Nat.le_refl _) q (by rw [hs]; simp); unfold F.good at this; omega
  have HB0 : Hid (Below w.heap.size w (w.alloc (.cells #[.int .i64 0, .slice none 0 0, .bool false] 38))) := Lib.hid ((Below.refl _ w).alloc (Nat.le_refl _) _)
  have HG0 : Hid ((w.alloc (.cells #[.int .i64 0, .slice none 0 0, .bool false] 38)).heap[w.heap.size]? = some (segObj 0 (.slice none 0 0) false)) := Lib.hid (heap_alloc_new w _)
  have HNL := Lib.hid (name_len (n : Int))
  obtain ⟨nm, hnm⟩ : ∃ nm, nameS (n : Int) = nm := ⟨_, rfl⟩
  have HNM := Lib.hid hnm
  rw [hnm] at HNL HRD
  have hnl := HNL.out
  have HA := Lib.hid hA
  have HI := Lib.hid hI
  clear hA hI hnm HNL hfind hs hq
  go_enter Tryz.func10, Tryz.ntmps10
  go_wp2_with fail
  generalize w.alloc (.cells #[.int .i64 0, .slice none 0 0, .bool false] 38) = W0 at *
  refine (Name_l (n : Int) W0 ⟨by omega, by omega⟩ (.inr (by omega))).mono ?_
  rw [HNM.out]
  rintro x w1 ⟨rfl, hb1⟩
  have HB1 := Lib.hid (HB0.out.trans (hb1.mono HB0.out.size))
  have HG1 := Lib.hid (block_below HG0.out hb1)
  have HA1 := Lib.hid (C.below HA.out HB1.out)
  clear hb1
  go_wp2_with fail
  refine (C.read nm s 0 HA1.out HI.out (by omega) (by omega) HRD.out).mono ?_
  rintro x w3 ⟨rfl, hb3⟩
  have HB3 := Lib.hid (HB1.out.trans (hb3.mono HB1.out.size))
  have HG3 := Lib.hid (block_below HG1.out hb3)
  clear hb3 HB1 HG1
  go_wp2_with fail
  refine (FScan_l s w3 (by omega)).mono ?_
  rw [HS.out]
  rintro x w4 ⟨v, rfl, how, hb4⟩
  have hz : w4.cell? = w4.cell? := rfl
  obtain ⟨g4, cp, rfl⟩ := ownsRow_succ (k := qs.length) how
  have hc4 : w4.cell? ⟨g4, 0, none⟩ = some (.string (B q)) := by
    have := how.cellAt 0 (by simp)
    simpa [strCells] using this
  have hi1 : (0 : Int) < ((qs.length + 1 : Nat) : Int) := by omega
  have hi0 : ((qs.length : Int) + 1 == 0) = false := beq_eq_false_iff_ne.2 (by omega)
  have HB4 := Lib.hid (HB3.out.trans (hb4.mono HB3.out.size))
  have HG4 := Lib.hid (block_below HG3.out hb4)
  clear hb4 how hz
  go_wp2_with fail
  refine (firstOf_no q w4 hql HQ.out).mono ?_
  rintro x w2 ⟨⟨f0, rfl⟩, hb2⟩
  have HB2 := Lib.hid (HB4.out.trans (hb2.mono HB4.out.size))
  have HG2 := Lib.hid (block_below HG4.out hb2)
  clear hb2 hc4
  have g0 := block_cell HG2.out 0
  have g1 := block_cell HG2.out 1
  have g2 := block_cell HG2.out 2
  simp only [List.getElem?_toArray, List.getElem?_cons_zero, List.getElem?_cons_succ] at g0 g1 g2
  have l0 := block_loose HG2.out 0
  have l1 := block_loose HG2.out 1
  have l2 := block_loose HG2.out 2
  go_wp2
  have HK := Lib.hid (set_three (.int .i64 0) (.slice none 0 0) (.bool false) HG2.out)
  have HB9 := Lib.hid (below_three HB2.out (Nat.le_refl _) (.int .i64 0) (.slice none 0 0) (.bool false))
  generalize ((w2.setCell ⟨w.heap.size, 0, none⟩ (.int .i64 0)).setCell ⟨w.heap.size, 1, none⟩ (.slice none 0 0)).setCell ⟨w.heap.size, 2, none⟩ (.bool false) = w9 at HK HB9 ⊢
  have k0 := block_cell HK.out 0
  have k1 := block_cell HK.out 1
  have k2 := block_cell HK.out 2
  simp only [List.getElem?_toArray, List.getElem?_cons_zero, List.getElem?_cons_succ] at k0 k1 k2
  exact bodyPost_ret (v := .tuple #[.agg #[.int .i64 0, .slice none 0 0, .bool false], .int .i64 2]) (by simp [results, Tryz.results10, go_sem, k0, k1, k2]) rfl ⟨rfl, HB9.out⟩
end Go.Proofs.YtmfhipjceeijmaaGreatDoor.G

/-
  The segment package: Load, of a segment.
-/
namespace Go.Proofs.YtmfhipjceeijmaaGreatDoor.G
open Go.RowKit Go.Shelf
open D (dP)
attribute [local go_sem] Oper.semAt_some ext_Bd ext_Bl ext_Bt toList_B add_B size_B get_Bt

theorem scan_len : ∀ (k : Nat) (s : Tx), s.length ≤ k → (F.scan s).2 = (F.frames (F.scan s).1).length
  | 0, s, h => by
    have : s = [] := List.eq_nil_of_length_eq_zero (by omega)
    subst this
    rw [F.scan_bad (F.take_few (by simp))]
    rfl
  | k + 1, s, h => by
    rcases F.take_cases s with ⟨e, he, _⟩ | ⟨p, r, he⟩
    · rw [F.scan_bad he]; rfl
    · have hi := F.take_inv he
      have hl : s.length = p.length + 8 + r.length := by rw [hi.1, List.length_append, F.frame_len]
      have h2 := scan_len k r (by omega)
      rw [F.scan_ok he, F.frames_cons, List.length_append, F.frame_len, ← h2]
theorem torn_is {s q : Tx} {qs : List Tx} {f : Nat} (hs : (F.scan s).1 = q :: qs) (hq : headOf q = some f) : ((F.scan s).2 < s.length ∨ (goOn qs ((f : Int) - 1) 0).length < qs.length) ↔ segB f (goOn qs ((f : Int) - 1) 0) ≠ s := by
  obtain ⟨r, hr⟩ := scan_inv s.length s (Nat.le_refl _)
  have hw := scan_len s.length s (Nat.le_refl _)
  obtain ⟨rest, hrest⟩ := goOn_part qs ((f : Int) - 1) 0
  have hqe := (headOf_inv hq).1
  rw [hs, hqe] at hr hw
  have hl := congrArg List.length hr
  have hrl := congrArg List.length hrest
  rw [List.length_append] at hl hrl
  rw [List.length_map] at hrl
  have hseg : s = segB f (goOn qs ((f : Int) - 1) 0) ++ (F.frames rest ++ r) := by
    rw [segB_eq, List.append_assoc, ← List.append_assoc (F.frames _), ← F.frames_append, ← hrest, ← List.append_assoc, ← F.frames_cons]
    exact hr
  have hsl := congrArg List.length hseg
  rw [List.length_append, List.length_append] at hsl
  have hfr := frames_ge rest
  have hfl : (F.frames (headP f :: qs)).length = (segB f (goOn qs ((f : Int) - 1) 0)).length + (F.frames rest).length := by
    rw [segB_eq, F.frames_cons]
    conv => lhs; rw [hrest]
    rw [F.frames_append, List.length_append, List.length_append, List.length_append]
    omega
  constructor
  · intro h e
    have := congrArg List.length e
    omega
  · intro h
    refine Classical.byContradiction fun hn => ?_
    have h1 : r.length = 0 := by omega
    have h2 : rest.length = 0 := by omega
    have e1 : r = [] := List.length_eq_zero_iff.1 h1
    have e2 : rest = [] := List.length_eq_zero_iff.1 h2
    subst e1 e2
    rw [F.frames_nil, List.append_nil, List.append_nil] at hseg
    exact h hseg.symm

/-- What Load tells. -/
def LoadRes (w w' : World) (x : Ending) (f : Nat) (es : List R.En) (t : Bool) : Prop := ∃ v xs, x = .returned (.tuple #[.agg #[.int .i64 (f : Int), v, .bool t], .int .i64 0]) ∧ ensOf xs = es ∧ RowX w.heap.size v w' xs
theorem RowX.low {a b : Nat} {v : Value} {wr : World} {es : List EV} (h : RowX a v wr es) (hab : b ≤ a) : RowX b v wr es :=
  ⟨own_base5 h.own hab, fun p hp => ⟨(h.ev p hp).1, (h.ev p hp).2.1, own_base5 (h.ev p hp).2.2 hab⟩⟩
/-- The worlds at Load's end. -/
theorem load_end {w W : World} {lim b g D : Nat} {f : Int} {v : Value} {xs : List EV} {tt : Bool} (hbl : b < lim) (hwg : w.heap.size ≤ g) (hgb : g < b) (hlD : lim ≤ D) (hlim : w.heap.size ≤ lim) (hgs : (W.setCell ⟨b, 2, none⟩ (.bool tt)).heap[g]? = some (segObj 0 (.slice none 0 0) false)) (hrow : RowX lim v W xs) (hB : Below w.heap.size w W) (hK : W.heap[D]? = some (.deferred (some []))) (o' : Obj) :
    ((((W.setCell ⟨b, 2, none⟩ (.bool tt)).setCell ⟨g, 0, none⟩ (.int .i64 f)).setCell ⟨g, 1, none⟩ v).setCell ⟨g, 2, none⟩ (.bool tt)).heap[D]? = some (.deferred (some [])) ∧
    (((((W.setCell ⟨b, 2, none⟩ (.bool tt)).setCell ⟨g, 0, none⟩ (.int .i64 f)).setCell ⟨g, 1, none⟩ v).setCell ⟨g, 2, none⟩ (.bool tt)).putObj D o').heap[g]? = some (segObj f v tt) ∧
    RowX w.heap.size v (((((W.setCell ⟨b, 2, none⟩ (.bool tt)).setCell ⟨g, 0, none⟩ (.int .i64 f)).setCell ⟨g, 1, none⟩ v).setCell ⟨g, 2, none⟩ (.bool tt)).putObj D o') xs ∧
    Below w.heap.size w (((((W.setCell ⟨b, 2, none⟩ (.bool tt)).setCell ⟨g, 0, none⟩ (.int .i64 f)).setCell ⟨g, 1, none⟩ v).setCell ⟨g, 2, none⟩ (.bool tt)).putObj D o') := by
  have hsame : ∀ k, k ≠ b → k ≠ g → ((((W.setCell ⟨b, 2, none⟩ (.bool tt)).setCell ⟨g, 0, none⟩ (.int .i64 f)).setCell ⟨g, 1, none⟩ v).setCell ⟨g, 2, none⟩ (.bool tt)).heap[k]? = W.heap[k]? := fun k h1 h2 => by
    rw [Below.heap_setCell _ _ _ _ h2, Below.heap_setCell _ _ _ _ h2, Below.heap_setCell _ _ _ _ h2, Below.heap_setCell _ _ _ _ h1]
  have hE := set_three (.int .i64 f) v (.bool tt) hgs
  have hD := (hsame D (by omega) (by omega)).trans hK
  have hBE : Below w.heap.size w ((((W.setCell ⟨b, 2, none⟩ (.bool tt)).setCell ⟨g, 0, none⟩ (.int .i64 f)).setCell ⟨g, 1, none⟩ v).setCell ⟨g, 2, none⟩ (.bool tt)) :=
    (((hB.setCell (p := ⟨b, 2, none⟩) (by show w.heap.size ≤ b; omega) _).setCell (p := ⟨g, 0, none⟩) hwg _).setCell (p := ⟨g, 1, none⟩) hwg _).setCell (p := ⟨g, 2, none⟩) hwg _
  refine ⟨hD, (World.putObj_heap_other (by omega)).trans hE, (hrow.low (b := w.heap.size) hlim).keep_from hrow fun k cs t fr h1 hk => ?_, hBE.grown (grownBy_putObj' _ D o') hBE.size fun k e => by cases e; omega⟩
  have hkD : k ≠ D := fun e => by subst e; rw [hk] at hK; cases hK
  exact (World.putObj_heap_other hkD).trans (hsame k (by omega) (by omega))

set_option maxRecDepth 100000 in
set_option maxHeartbeats 8000000 in
theorem load_ok (C : D.DC) {bs : Nat} {w : World} {p room : Nat} {l : List D.F} {S : Nat → Prop} (n : Nat) (hA : C.At bs w p room l S) (hI : D.Inv room l) (hroom : room ≤ 100000000) (hn : n ≤ 9) (s : Tx) (y : Nat) (q : Tx) (qs : List Tx) (f : Nat) (t : Bool) (hfind : D.find (nameS n) l = some ⟨nameS n, s, y⟩) (hs : (F.scan s).1 = q :: qs) (hq : headOf q = some f) (ht : decide (segB f (goOn qs ((f : Int) - 1) 0) ≠ s) = t) :
    Calls Tryz.prog 10 #[dP p, .int .i64 (n : Int)] w fun x w' => LoadRes w w' x f (goOn qs ((f : Int) - 1) 0) t ∧ Below w.heap.size w w' := by
  have hsl : s.length ≤ 100000000 := by
    have := inv_data hI hfind
    omega
  have HRD := Lib.hid (show D.read (nameS n) l = (s, 0) by unfold D.read; rw [hfind])
  have HS := Lib.hid hs
  have HQ := Lib.hid hq
  have HTI := Lib.hid (torn_is hs hq)
  have HT := Lib.hid ht
  have HFQ := Lib.hid (headOf_inv hq).2
  have hgood := scan_good s.length s (Nat.le_refl _)
  rw [hs] at hgood
  have HQL := Lib.hid (show ∀ z ∈ qs, z.length ≤ 100000 from fun z hz => by have := hgood z (by simp [hz]); unfold F.good at this; omega)
  have hqsl : qs.length ≤ s.length := by
    have h1 := frames_ge (q :: qs)
    have h2 := scan_len s.length s (Nat.le_refl _)
    obtain ⟨r, hr⟩ := scan_inv s.length s (Nat.le_refl _)
    have h3 := congrArg List.length hr
    rw [hs, List.length_append] at h3
    rw [List.length_cons] at h1
    omega
  have hwl : (F.scan s).2 ≤ s.length := by
    have h2 := scan_len s.length s (Nat.le_refl _)
    obtain ⟨r, hr⟩ := scan_inv s.length s (Nat.le_refl _)
    have h3 := congrArg List.length hr
    rw [List.length_append] at h3
    omega
  obtain ⟨wh, hwh⟩ : ∃ wh, (F.scan s).2 = wh := ⟨_, rfl⟩
  have HWH := Lib.hid hwh
  rw [hwh] at HTI hwl
  have HB0 : Hid (Below w.heap.size w (w.alloc (.cells #[.int .i64 0, .slice none 0 0, .bool false] 38))) := Lib.hid ((Below.refl _ w).alloc (Nat.le_refl _) _)
  have HG0 : Hid ((w.alloc (.cells #[.int .i64 0, .slice none 0 0, .bool false] 38)).heap[w.heap.size]? = some (segObj 0 (.slice none 0 0) false)) := Lib.hid (heap_alloc_new w _)
  have HNL := Lib.hid (name_len (n : Int))
  obtain ⟨nm, hnm⟩ : ∃ nm, nameS (n : Int) = nm := ⟨_, rfl⟩
  have HNM := Lib.hid hnm
  rw [hnm] at HNL HRD
  have hnl := HNL.out
  have HA := Lib.hid hA
  have HI := Lib.hid hI
  clear hA hI hnm HNL hfind hs hq ht hgood hwh
  obtain ⟨i0, hi, hz0, hz1, hz2⟩ := info_parts Tryz.infoEn
  refine (callsIn_wide (n := 9)).1 ?_
  refine callsIn_of_wp_marks Tryz.func10 rfl trivial ?_ rfl
  simp only [Tryz.ntmps10, List.size_toArray, List.length_cons, List.length_nil, Nat.reduceAdd, Nat.reduceSub, Array.replicate_succ, Array.replicate_zero, List.push_toArray, List.append_toArray, List.nil_append, List.cons_append]
  gi_wp2_with fail
  generalize w.alloc (.cells #[.int .i64 0, .slice none 0 0, .bool false] 38) = W0 at *
  refine ⟨trivial, (callsIn_wide.2 (Name_l (n : Int) W0 ⟨by omega, by omega⟩ (.inr (by omega)))).mono ?_⟩
  rw [HNM.out]
  rintro x w1 ⟨rfl, hb1⟩
  have HB1 := Lib.hid (HB0.out.trans (hb1.mono HB0.out.size))
  have HG1 := Lib.hid (block_below HG0.out hb1)
  have HA1 := Lib.hid (C.below HA.out HB1.out)
  clear hb1 HG0 HB0
  gi_wp2_with fail
  refine ⟨trivial, (callsIn_wide.2 (C.read nm s 0 HA1.out HI.out (by omega) (by omega) HRD.out)).mono ?_⟩
  rintro x w3 ⟨rfl, hb3⟩
  have HB3 := Lib.hid (HB1.out.trans (hb3.mono HB1.out.size))
  have HG3 := Lib.hid (block_below HG1.out hb3)
  clear hb3 HB1 HG1 HA1
  gi_wp2_with fail
  refine ⟨trivial, (callsIn_wide.2 (FScan_l s w3 (by omega))).mono ?_⟩
  rw [HS.out, HWH.out]
  rintro x w4 ⟨v, rfl, how, hb4⟩
  obtain ⟨g4, cp, rfl⟩ := ownsRow_succ (k := qs.length) how
  have hcp : qs.length + 1 ≤ cp ∧ w3.heap.size ≤ g4 ∧ g4 < w4.heap.size := by
    rcases how.2 with ⟨h, _⟩ | ⟨g, cap, cur, h, h1, h2, h3, _⟩
    · cases h
    · cases h
      exact ⟨h3, h1, (Array.getElem?_eq_some_iff.1 h2).1⟩
  have hc4 : w4.cell? ⟨g4, 0, none⟩ = some (.string (B q)) := by
    have := how.cellAt 0 (by simp)
    simpa [strCells] using this
  have HCS := Lib.hid (show ∀ i (h : i < qs.length), w4.cell? ⟨g4, 1 + i, none⟩ = some (.string (B qs[i])) from fun i h => by
    have := how.cellAt (1 + i) (by simp; omega)
    rw [this]
    simp [strCells, Nat.add_comm 1 i, h])
  have hi1 : (0 : Int) < ((qs.length + 1 : Nat) : Int) := by omega
  have hi0 : ((qs.length : Int) + 1 == 0) = false := beq_eq_false_iff_ne.2 (by omega)
  have HB4 := Lib.hid (HB3.out.trans (hb4.mono HB3.out.size))
  have HG4 := Lib.hid (block_below HG3.out hb4)
  have hsz4 := HB3.out.size
  clear hb4 how HB3 HG3
  gi_wp2_with fail
  refine ⟨trivial, (callsIn_wide.2 (firstOf_yes q f w4 HQ.out)).mono ?_⟩
  rintro x w5 ⟨rfl, hb5⟩
  have HB5 := Lib.hid (HB4.out.trans (hb5.mono HB4.out.size))
  have HG5 := Lib.hid (block_below HG4.out hb5)
  have HCS5 := Lib.hid (show ∀ i (h : i < qs.length), w5.cell? ⟨g4, 1 + i, none⟩ = some (.string (B qs[i])) from fun i h => below_keeps hb5 _ _ (HCS.out i h))
  have h45 := hb5.size
  clear hb5 HB4 HG4 HCS hc4
  obtain ⟨hcp1, hcp2, hcp3⟩ := hcp
  have hi2 : (1 : Int) ≤ ((qs.length + 1 : Nat) : Int) := by omega
  -- TAIL
  by_cases hcp0 : cp = 1
  · subst hcp0
    obtain rfl : qs = [] := List.eq_nil_of_length_eq_zero (by omega)
    gi_wp2_with fail
    refine ⟨trivial, (entries_in 8 (some ⟨g4, 0, none⟩) 0 0 (f : Int) _).mono ?_⟩
    rintro x w6 ⟨rfl, hw6⟩
    rw [World.size_alloc] at *
    obtain ⟨b, hbe⟩ : ∃ b, w5.heap.size = b := ⟨_, rfl⟩
    have hs6 : w6.heap.size = b + 3 := by rw [hw6, ← hbe]; simp
    have hal1 : Below w5.heap.size w5 (w5.alloc (.cells #[.int .i64 (f : Int), .slice none 0 0, .bool false] 38)) := (Below.refl _ w5).alloc (Nat.le_refl _) _
    have hal2 : Below (w5.alloc (.cells #[.int .i64 (f : Int), .slice none 0 0, .bool false] 38)).heap.size (w5.alloc (.cells #[.int .i64 (f : Int), .slice none 0 0, .bool false] 38)) w6 := by
      rw [hw6]; exact ((Below.refl _ _).alloc (Nat.le_refl _) _).alloc (by simp) _
    have h56 : Below w5.heap.size w5 w6 := hal1.trans (hal2.mono hal1.size)
    have HSB := Lib.hid (show w6.heap[b]? = some (segObj (f : Int) (.slice none 0 0) false) by
      rw [← hbe]; exact block_below (heap_alloc_new w5 _) hal2)
    have HBX2 := Lib.hid (show w6.cell? ⟨b + 1, 0, none⟩ = some (.slice (some ⟨g4, 0, none⟩) 0 0) by
      have h1 := heap_alloc_new (w5.alloc (.cells #[.int .i64 (f : Int), .slice none 0 0, .bool false] 38)) (.cells #[.slice (some ⟨g4, 0, none⟩) 0 0] 67)
      rw [World.size_alloc] at h1
      have h2 := block_below h1 (show Below _ _ (((w5.alloc (.cells #[.int .i64 (f : Int), .slice none 0 0, .bool false] 38)).alloc (.cells #[.slice (some ⟨g4, 0, none⟩) 0 0] 67)).alloc (.cells #[.int .i64 (f : Int)] 3)) from (Below.refl _ _).alloc (Nat.le_refl _) _)
      rw [← hw6] at h2
      rw [← hbe]
      exact block_cell h2 0)
    have HBX1 := Lib.hid (show w6.cell? ⟨b + 1 + 1, 0, none⟩ = some (.int .i64 (f : Int)) by
      have h1 := heap_alloc_new ((w5.alloc (.cells #[.int .i64 (f : Int), .slice none 0 0, .bool false] 38)).alloc (.cells #[.slice (some ⟨g4, 0, none⟩) 0 0] 67)) (.cells #[.int .i64 (f : Int)] 3)
      rw [World.size_alloc, World.size_alloc, ← hw6] at h1
      rw [← hbe]
      exact block_cell h1 0)
    have HB6 := Lib.hid (HB5.out.trans (h56.mono HB5.out.size))
    have HG6 := Lib.hid (block_below HG5.out h56)
    have hgb : w.heap.size < b := by
      have h1 := lt_of_block HG5.out
      omega
    have HFIX := Lib.hid (show FixAt b (b + 3) (b + 1 + 1) (b + 1) (f : Int) (.slice (some ⟨g4, 0, none⟩) 0 0) [] w6 from
      ⟨by omega, by omega, fun k hk => by
        obtain ⟨off, n2, c2, hc⟩ := hk
        have := block_cell HSB.out 1
        rw [hc] at this
        simp at this, ⟨HBX1.out, by omega, by omega⟩, ⟨HBX2.out, by omega, by omega⟩, ⟨(some ⟨g4, 0, none⟩), 0, rfl, fun i h => ⟨g4, 1, absurd h (by omega), by omega, by omega, below_keeps h56 _ _ (HCS5.out i h)⟩⟩⟩)
    clear hal1 hal2 h56 HB5 HG5 HCS5 HBX1 HBX2 hw6
    rw [hbe]
    gi_wp2_with fail
    refine range_yields rfl (by omega) (gf := 74) (lb := #[.pointer (some ⟨b + 1 + 1, 0, none⟩), .pointer (some ⟨b + 1, 0, none⟩)]) rfl trivial (enters_of Tryz.func74 (by kernel_rfl) rfl)
      (entries1_in 8 b (b + 3) (b + 1 + 1) (b + 1) f (.slice (some ⟨g4, 0, none⟩) 0 0) [] w6 HFQ.out HQL.out (by omega) HFIX.out) (Below.refl _ _) (fun _ => rfl) ?hKp
      (LoadI w (b + 3) b w.heap.size (f : Int)) (by rw [hs6]; exact LoadI.own w (b + 3) b w.heap.size (f : Int) (by omega))
      ⟨_, HSB.out, RowX.nil _ _, HG6.out, by omega, HB6.out⟩ ?round ?done
    case hKp =>
      intro A B0 l2 o r2 hl2 hA2 hk2
      have hbl2 : b ≠ l2 := by omega
      refine ⟨by simpa using hk2.size, fun k cs t2 fr hk3 h3 h4 => ?_, fun k hh => ?_⟩
      · have hne : k ≠ l2 := fun e => by subst e; rw [hA2] at hk3; cases hk3
        rw [World.putObj_heap_other hne]
        exact hk2.same _ _ _ _ hk3 h3 h4
      · obtain ⟨off, n2, c2, hc2⟩ := hh
        have := hk2.low k ⟨off, n2, c2, cell_same hc2 (World.putObj_heap_other hbl2).symm⟩
        simpa using this
    case round =>
      rintro l2 pre x W hl2 _ _ _ hlen
      exact absurd hlen (Nat.not_lt_zero _)
    case done =>
      rintro D xs W hD hens ⟨v, hv, hrow, hg, hsz, hB⟩ hK
      have hxl : xs.length = (goOn [] ((f : Int) - 1) 0).length := by rw [← hens, ensOf_len]
      have HTT : Hid ((decide (wh < s.length) || decide (xs.length < 0)) = t) := Lib.hid (by
        rw [← HT.out, hxl]
        by_cases hcase : wh < s.length ∨ (goOn [] ((f : Int) - 1) 0).length < 0
        · rw [decide_eq_true (HTI.out.1 hcase)]
          rcases hcase with h | h
          · rw [decide_eq_true h]; rfl
          · rw [decide_eq_true h]; simp
        · rw [decide_eq_false (fun h => hcase (HTI.out.2 h)), decide_eq_false (fun h => hcase (.inl h)), decide_eq_false (fun h => hcase (.inr h))]; rfl)
      obtain ⟨av, cv, rfl⟩ := own_slice hrow.own
      have HENS := Lib.hid hens
      have HROW := Lib.hid hrow
      have HV := Lib.hid hv
      have HB7 := Lib.hid hB
      have HG := Lib.hid hg
      have HK := Lib.hid hK
      have b0 := block_cell hv 0
      have b1 := block_cell hv 1
      have b2 := block_cell hv 2
      have y2 := block_loose hv 2
      have y0 := block_loose hg 0
      have y1 := block_loose hg 1
      have y22 := block_loose hg 2
      have v0 : ∀ tt, (W.setCell ⟨b, 2, none⟩ (.bool tt)).cell? ⟨b, 0, none⟩ = some (.int .i64 (f : Int)) := fun tt => block_cell (set_block hv 2 (.bool tt)) 0
      have v1 : ∀ tt, (W.setCell ⟨b, 2, none⟩ (.bool tt)).cell? ⟨b, 1, none⟩ = some (.slice av xs.length cv) := fun tt => block_cell (set_block hv 2 (.bool tt)) 1
      have v2 : ∀ tt, (W.setCell ⟨b, 2, none⟩ (.bool tt)).cell? ⟨b, 2, none⟩ = some (.bool tt) := fun tt => block_cell (set_block hv 2 (.bool tt)) 2
      have hgs : ∀ tt, (W.setCell ⟨b, 2, none⟩ (.bool tt)).heap[w.heap.size]? = some (segObj 0 (.slice none 0 0) false) := fun tt => (Below.heap_setCell _ _ _ _ (by show w.heap.size ≠ b; omega)).trans hg
      have q0 : ∀ tt, (W.setCell ⟨b, 2, none⟩ (.bool tt)).cell? ⟨w.heap.size, 0, none⟩ = some (.int .i64 0) := fun tt => block_cell (hgs tt) 0
      have q1 : ∀ tt, (W.setCell ⟨b, 2, none⟩ (.bool tt)).cell? ⟨w.heap.size, 1, none⟩ = some (.slice none 0 0) := fun tt => block_cell (hgs tt) 1
      have q2 : ∀ tt, (W.setCell ⟨b, 2, none⟩ (.bool tt)).cell? ⟨w.heap.size, 2, none⟩ = some (.bool false) := fun tt => block_cell (hgs tt) 2
      have f0 : ∀ tt, (W.setCell ⟨b, 2, none⟩ (.bool tt)).frozen? ⟨w.heap.size, 0, none⟩ = false := fun tt => block_loose (hgs tt) 0
      have f1 : ∀ tt, (W.setCell ⟨b, 2, none⟩ (.bool tt)).frozen? ⟨w.heap.size, 1, none⟩ = false := fun tt => block_loose (hgs tt) 1
      have f2 : ∀ tt, (W.setCell ⟨b, 2, none⟩ (.bool tt)).frozen? ⟨w.heap.size, 2, none⟩ = false := fun tt => block_loose (hgs tt) 2
      have HGS := Lib.hid hgs
      clear hgs
      simp only [List.getElem?_toArray, List.getElem?_cons_zero, List.getElem?_cons_succ] at b0 b1 b2
      have hDg : b < D := by omega
      clear hens hrow hv hB hg hK hxl y0 y1 y22
      by_cases h1 : wh < s.length
      · have h1i : (wh : Int) < (s.length : Int) := by omega
        have HTE := Lib.hid (show t = true by rw [← HTT.out, decide_eq_true h1]; rfl)
        gi_wp2
        have HEND := Lib.hid (load_end (w := w) (lim := b + 3) (f := (f : Int)) (v := .slice av xs.length cv) (xs := xs) (tt := true) (by omega) (Nat.le_refl _) hgb (by omega) (by omega) (HGS.out true) HROW.out HB7.out HK.out (.deferred none))
        refine ⟨by simp, .inl ⟨_, _, rfl, run_takeDeferred HEND.out.1, ?_⟩⟩
        have hend := HEND.out.2
        generalize (((((W.setCell ⟨b, 2, none⟩ (.bool true)).setCell ⟨w.heap.size, 0, none⟩ (.int .i64 (f : Int))).setCell ⟨w.heap.size, 1, none⟩ (.slice av xs.length cv)).setCell ⟨w.heap.size, 2, none⟩ (.bool true)).putObj D (.deferred none)) = E at hend ⊢
        obtain ⟨e1, e2, e3⟩ := hend
        have k0 := block_cell e1 0
        have k1 := block_cell e1 1
        have k2 := block_cell e1 2
        simp only [List.getElem?_toArray, List.getElem?_cons_zero, List.getElem?_cons_succ] at k0 k1 k2
        rw [HTE.out]
        exact ⟨.tuple #[.agg #[.int .i64 (f : Int), .slice av xs.length cv, .bool true], .int .i64 0], by simp [results, Tryz.results10, go_sem, k0, k1, k2], ⟨_, xs, rfl, HENS.out, e2⟩, e3⟩
      · have h1i : ¬ (wh : Int) < (s.length : Int) := by omega
        by_cases h2 : xs.length < 0
        · exact absurd h2 (Nat.not_lt_zero _)
        · have h2i : ¬ (xs.length : Int) < 0 := by omega
          have HTE := Lib.hid (show t = false by rw [← HTT.out, decide_eq_false h1, decide_eq_false h2]; rfl)
          gi_wp2
          have HEND := Lib.hid (load_end (w := w) (lim := b + 3) (f := (f : Int)) (v := .slice av xs.length cv) (xs := xs) (tt := false) (by omega) (Nat.le_refl _) hgb (by omega) (by omega) (HGS.out false) HROW.out HB7.out HK.out (.deferred none))
          refine ⟨by simp, .inl ⟨_, _, rfl, run_takeDeferred HEND.out.1, ?_⟩⟩
          have hend := HEND.out.2
          generalize (((((W.setCell ⟨b, 2, none⟩ (.bool false)).setCell ⟨w.heap.size, 0, none⟩ (.int .i64 (f : Int))).setCell ⟨w.heap.size, 1, none⟩ (.slice av xs.length cv)).setCell ⟨w.heap.size, 2, none⟩ (.bool false)).putObj D (.deferred none)) = E at hend ⊢
          obtain ⟨e1, e2, e3⟩ := hend
          have k0 := block_cell e1 0
          have k1 := block_cell e1 1
          have k2 := block_cell e1 2
          simp only [List.getElem?_toArray, List.getElem?_cons_zero, List.getElem?_cons_succ] at k0 k1 k2
          rw [HTE.out]
          exact ⟨.tuple #[.agg #[.int .i64 (f : Int), .slice av xs.length cv, .bool false], .int .i64 0], by simp [results, Tryz.results10, go_sem, k0, k1, k2], ⟨_, xs, rfl, HENS.out, e2⟩, e3⟩
  · gi_wp2_with fail
    refine ⟨trivial, (entries_in 8 (some ⟨g4, 1, none⟩) qs.length (cp - 1) (f : Int) _).mono ?_⟩
    rintro x w6 ⟨rfl, hw6⟩
    rw [World.size_alloc] at *
    obtain ⟨b, hbe⟩ : ∃ b, w5.heap.size = b := ⟨_, rfl⟩
    have hs6 : w6.heap.size = b + 3 := by rw [hw6, ← hbe]; simp
    have hal1 : Below w5.heap.size w5 (w5.alloc (.cells #[.int .i64 (f : Int), .slice none 0 0, .bool false] 38)) := (Below.refl _ w5).alloc (Nat.le_refl _) _
    have hal2 : Below (w5.alloc (.cells #[.int .i64 (f : Int), .slice none 0 0, .bool false] 38)).heap.size (w5.alloc (.cells #[.int .i64 (f : Int), .slice none 0 0, .bool false] 38)) w6 := by
      rw [hw6]; exact ((Below.refl _ _).alloc (Nat.le_refl _) _).alloc (by simp) _
    have h56 : Below w5.heap.size w5 w6 := hal1.trans (hal2.mono hal1.size)
    have HSB := Lib.hid (show w6.heap[b]? = some (segObj (f : Int) (.slice none 0 0) false) by
      rw [← hbe]; exact block_below (heap_alloc_new w5 _) hal2)
    have HBX2 := Lib.hid (show w6.cell? ⟨b + 1, 0, none⟩ = some (.slice (some ⟨g4, 1, none⟩) qs.length (cp - 1)) by
      have h1 := heap_alloc_new (w5.alloc (.cells #[.int .i64 (f : Int), .slice none 0 0, .bool false] 38)) (.cells #[.slice (some ⟨g4, 1, none⟩) qs.length (cp - 1)] 67)
      rw [World.size_alloc] at h1
      have h2 := block_below h1 (show Below _ _ (((w5.alloc (.cells #[.int .i64 (f : Int), .slice none 0 0, .bool false] 38)).alloc (.cells #[.slice (some ⟨g4, 1, none⟩) qs.length (cp - 1)] 67)).alloc (.cells #[.int .i64 (f : Int)] 3)) from (Below.refl _ _).alloc (Nat.le_refl _) _)
      rw [← hw6] at h2
      rw [← hbe]
      exact block_cell h2 0)
    have HBX1 := Lib.hid (show w6.cell? ⟨b + 1 + 1, 0, none⟩ = some (.int .i64 (f : Int)) by
      have h1 := heap_alloc_new ((w5.alloc (.cells #[.int .i64 (f : Int), .slice none 0 0, .bool false] 38)).alloc (.cells #[.slice (some ⟨g4, 1, none⟩) qs.length (cp - 1)] 67)) (.cells #[.int .i64 (f : Int)] 3)
      rw [World.size_alloc, World.size_alloc, ← hw6] at h1
      rw [← hbe]
      exact block_cell h1 0)
    have HB6 := Lib.hid (HB5.out.trans (h56.mono HB5.out.size))
    have HG6 := Lib.hid (block_below HG5.out h56)
    have hgb : w.heap.size < b := by
      have h1 := lt_of_block HG5.out
      omega
    have HFIX := Lib.hid (show FixAt b (b + 3) (b + 1 + 1) (b + 1) (f : Int) (.slice (some ⟨g4, 1, none⟩) qs.length (cp - 1)) qs w6 from
      ⟨by omega, by omega, fun k hk => by
        obtain ⟨off, n2, c2, hc⟩ := hk
        have := block_cell HSB.out 1
        rw [hc] at this
        simp at this, ⟨HBX1.out, by omega, by omega⟩, ⟨HBX2.out, by omega, by omega⟩, ⟨(some ⟨g4, 1, none⟩), (cp - 1), rfl, fun i h => ⟨g4, 1, rfl, by omega, by omega, below_keeps h56 _ _ (HCS5.out i h)⟩⟩⟩)
    clear hal1 hal2 h56 HB5 HG5 HCS5 HBX1 HBX2 hw6
    rw [hbe]
    gi_wp2_with fail
    refine range_yields rfl (by omega) (gf := 74) (lb := #[.pointer (some ⟨b + 1 + 1, 0, none⟩), .pointer (some ⟨b + 1, 0, none⟩)]) rfl trivial (enters_of Tryz.func74 (by kernel_rfl) rfl)
      (entries1_in 8 b (b + 3) (b + 1 + 1) (b + 1) f (.slice (some ⟨g4, 1, none⟩) qs.length (cp - 1)) qs w6 HFQ.out HQL.out (by omega) HFIX.out) (Below.refl _ _) (fun _ => rfl) ?hKp
      (LoadI w (b + 3) b w.heap.size (f : Int)) (by rw [hs6]; exact LoadI.own w (b + 3) b w.heap.size (f : Int) (by omega))
      ⟨_, HSB.out, RowX.nil _ _, HG6.out, by omega, HB6.out⟩ ?round ?done
    case hKp =>
      intro A B0 l2 o r2 hl2 hA2 hk2
      have hbl2 : b ≠ l2 := by omega
      refine ⟨by simpa using hk2.size, fun k cs t2 fr hk3 h3 h4 => ?_, fun k hh => ?_⟩
      · have hne : k ≠ l2 := fun e => by subst e; rw [hA2] at hk3; cases hk3
        rw [World.putObj_heap_other hne]
        exact hk2.same _ _ _ _ hk3 h3 h4
      · obtain ⟨off, n2, c2, hc2⟩ := hh
        have := hk2.low k ⟨off, n2, c2, cell_same hc2 (World.putObj_heap_other hbl2).symm⟩
        simpa using this
    case round =>
      rintro l2 pre ⟨⟨pos, ep, ⟨st, ex, se, sq, evs⟩⟩, u⟩ W hl2 ⟨r0, hr0⟩ ⟨v, hv, hrow, hg, hsz, hB⟩ ⟨hp, hrt, hev⟩ hlen
      dsimp only at hp hrt hev
      have hre := readsE_own hev
      obtain ⟨ua, uc, rfl, _⟩ := hre
      have hl3 := lt_of_block hr0
      gi_wp2
      refine ⟨(KeepsOthers.alloc _ _).from _, fun r hr r' => ?_⟩
      have hx2 : ((W.alloc (.cells #[.int .i64 pos, .int .i64 ep, .string (B st), .int .i64 ex, .int .i64 se, .int .i64 sq, .slice ua evs.length uc] 53)).putObj l2 (.loop r')).heap[W.heap.size]? = some (.cells #[.int .i64 pos, .int .i64 ep, .string (B st), .int .i64 ex, .int .i64 se, .int .i64 sq, .slice ua evs.length uc] 53 (0, 0)) := (World.putObj_heap_other (by omega)).trans (heap_alloc_new W _)
      have hB2 : Below w.heap.size w ((W.alloc (.cells #[.int .i64 pos, .int .i64 ep, .string (B st), .int .i64 ex, .int .i64 se, .int .i64 sq, .slice ua evs.length uc] 53)).putObj l2 (.loop r')) := (hB.alloc hB.size _).grown (grownBy_putObj' _ l2 _) (by have := hB.size; simp; omega) fun k e => by cases e; omega
      have hsame : ∀ k o, W.heap[k]? = some o → k ≠ l2 → ((W.alloc (.cells #[.int .i64 pos, .int .i64 ep, .string (B st), .int .i64 ex, .int .i64 se, .int .i64 sq, .slice ua evs.length uc] 53)).putObj l2 (.loop r')).heap[k]? = some o := fun k o hk hne => (World.putObj_heap_other hne).trans ((Below.heap_alloc _ _ _ (lt_of_block hk)).trans hk)
      have hsz2 : b + 3 ≤ ((W.alloc (.cells #[.int .i64 pos, .int .i64 ep, .string (B st), .int .i64 ex, .int .i64 se, .int .i64 sq, .slice ua evs.length uc] 53)).putObj l2 (.loop r')).heap.size := by simp; omega
      have hnl : ∀ k cs t2 fr, W.heap[k]? = some (.cells cs t2 fr) → k ≠ l2 := fun k cs t2 fr hk e => by subst e; rw [hr0] at hk; cases hk
      have hszW : W.heap.size ≤ ((W.alloc (.cells #[.int .i64 pos, .int .i64 ep, .string (B st), .int .i64 ex, .int .i64 se, .int .i64 sq, .slice ua evs.length uc] 53)).putObj l2 (.loop r')).heap.size := by simp
      generalize (W.alloc (.cells #[.int .i64 pos, .int .i64 ep, .string (B st), .int .i64 ex, .int .i64 se, .int .i64 sq, .slice ua evs.length uc] 53)).putObj l2 (.loop r') = W2 at *
      have hv2 := hsame b _ hv (by omega)
      have hg2 := hsame _ _ hg (by omega)
      have hrow2 : RowX (b + 3) v W2 pre := hrow.keep fun k cs t2 fr _ hk => (hsame k _ hk (hnl _ _ _ _ hk)).trans hk.symm
      have hev2 : W2.ownsRow (b + 3) 92 2 (.slice ua evs.length uc) evs.length (evCells evs) := own_cells hev fun k cs t2 fr _ hk => (hsame k _ hk (hnl _ _ _ _ hk)).trans hk.symm
      have HSAME := Lib.hid hsame
      have HNLL := Lib.hid hnl
      have HV := Lib.hid hv
      have HROW := Lib.hid hrow
      have HROW2 := Lib.hid hrow2
      have HEV2 := Lib.hid hev2
      have HV2 := Lib.hid hv2
      have HG2 := Lib.hid hg2
      have HB2 := Lib.hid hB2
      have b1 := block_cell hv2 1
      have x0 := block_cell hx2 0
      have x1 := block_cell hx2 1
      have x2 := block_cell hx2 2
      have x3 := block_cell hx2 3
      have x4 := block_cell hx2 4
      have x5 := block_cell hx2 5
      have x6 := block_cell hx2 6
      simp only [List.getElem?_toArray, List.getElem?_cons_zero, List.getElem?_cons_succ] at b1 x0 x1 x2 x3 x4 x5 x6
      have hprel : pre.length < 100000000 := by omega
      clear hsame hnl hv hrow hrow2 hev2 hv2 hg2 hB2 hx2 hB hg hev hr
      gi_wp2_with (gi_at_builtin; refine wpListIn_append_own _ rfl _ _ 33 rfl (b + 3) 53 i0 _ 7 80 Tryz.underlying33 hi hz0 hz1 hz2 rfl (by decide) _ _ _ rfl (HROW2.out.own.alloc _) ⟨W2.heap.size, 0, none⟩ 1 1 [.int .i64 pos, .int .i64 ep, .string (B st), .int .i64 ex, .int .i64 se, .int .i64 sq, .slice ua evs.length uc] rfl rfl (World.news_of_block (cs := #[.int .i64 pos, .int .i64 ep, .string (B st), .int .i64 ex, .int .i64 se, .int .i64 sq, .slice ua evs.length uc]) (t := 53) (fr := (0, 0)) (heap_alloc_new W2 _)) (by simp [Value.oneCell']) (by unfold maxLen; omega) (by omega) (by simp; omega) ?_; intro v' w9 hown9 hgrow9 _; obtain ⟨g', cap', rfl⟩ := ownsRow_succ hown9; have HST := Lib.hid (load_step (w := w) (f := (f : Int)) (e := ⟨pos, ep, ⟨st, ex, se, sq, evs⟩⟩) (by omega) (Nat.le_refl _) hgb HV2.out HROW2.out HG2.out hsz2 HB2.out hp hrt HEV2.out hown9 hgrow9); have y1 := block_loose HST.out.2.2.2.2 1; have z1 := block_cell HST.out.2.2.2.2 1)
      obtain ⟨s1, s2, s3, s4, s5⟩ := HST.out
      refine ⟨⟨s4, fun k o hk1 hk2 hk3 => s2 k o hk2 (fun e => ?_) (fun e => ?_)⟩, ⟨Nat.le_trans hszW s4, fun k cs t2 fr hk h3 h4 => ?_, s3⟩, s1⟩
      · subst e
        rw [HV2.out] at hk2
        cases hk2
        cases hk3
      · obtain ⟨_, _, cs, hcs⟩ := own_lt HROW2.out.own e
        rw [hcs] at hk2
        cases hk2
        cases hk3
      · rw [hk]
        refine s2 k _ (HSAME.out k _ hk (HNLL.out _ _ _ _ hk)) h3 (fun e => h4 ?_)
        obtain ⟨c2, hc2⟩ := own_form HROW2.out.own e
        exact ⟨0, pre.length, c2, by rw [block_cell HV.out 1, hc2]; rfl⟩
    case done =>
      rintro D xs W hD hens ⟨v, hv, hrow, hg, hsz, hB⟩ hK
      have hxl : xs.length = (goOn qs ((f : Int) - 1) 0).length := by rw [← hens, ensOf_len]
      have HTT : Hid ((decide (wh < s.length) || decide (xs.length < qs.length)) = t) := Lib.hid (by
        rw [← HT.out, hxl]
        by_cases hcase : wh < s.length ∨ (goOn qs ((f : Int) - 1) 0).length < qs.length
        · rw [decide_eq_true (HTI.out.1 hcase)]
          rcases hcase with h | h
          · rw [decide_eq_true h]; rfl
          · rw [decide_eq_true h]; simp
        · rw [decide_eq_false (fun h => hcase (HTI.out.2 h)), decide_eq_false (fun h => hcase (.inl h)), decide_eq_false (fun h => hcase (.inr h))]; rfl)
      obtain ⟨av, cv, rfl⟩ := own_slice hrow.own
      have HENS := Lib.hid hens
      have HROW := Lib.hid hrow
      have HV := Lib.hid hv
      have HB7 := Lib.hid hB
      have HG := Lib.hid hg
      have HK := Lib.hid hK
      have b0 := block_cell hv 0
      have b1 := block_cell hv 1
      have b2 := block_cell hv 2
      have y2 := block_loose hv 2
      have y0 := block_loose hg 0
      have y1 := block_loose hg 1
      have y22 := block_loose hg 2
      have v0 : ∀ tt, (W.setCell ⟨b, 2, none⟩ (.bool tt)).cell? ⟨b, 0, none⟩ = some (.int .i64 (f : Int)) := fun tt => block_cell (set_block hv 2 (.bool tt)) 0
      have v1 : ∀ tt, (W.setCell ⟨b, 2, none⟩ (.bool tt)).cell? ⟨b, 1, none⟩ = some (.slice av xs.length cv) := fun tt => block_cell (set_block hv 2 (.bool tt)) 1
      have v2 : ∀ tt, (W.setCell ⟨b, 2, none⟩ (.bool tt)).cell? ⟨b, 2, none⟩ = some (.bool tt) := fun tt => block_cell (set_block hv 2 (.bool tt)) 2
      have hgs : ∀ tt, (W.setCell ⟨b, 2, none⟩ (.bool tt)).heap[w.heap.size]? = some (segObj 0 (.slice none 0 0) false) := fun tt => (Below.heap_setCell _ _ _ _ (by show w.heap.size ≠ b; omega)).trans hg
      have q0 : ∀ tt, (W.setCell ⟨b, 2, none⟩ (.bool tt)).cell? ⟨w.heap.size, 0, none⟩ = some (.int .i64 0) := fun tt => block_cell (hgs tt) 0
      have q1 : ∀ tt, (W.setCell ⟨b, 2, none⟩ (.bool tt)).cell? ⟨w.heap.size, 1, none⟩ = some (.slice none 0 0) := fun tt => block_cell (hgs tt) 1
      have q2 : ∀ tt, (W.setCell ⟨b, 2, none⟩ (.bool tt)).cell? ⟨w.heap.size, 2, none⟩ = some (.bool false) := fun tt => block_cell (hgs tt) 2
      have f0 : ∀ tt, (W.setCell ⟨b, 2, none⟩ (.bool tt)).frozen? ⟨w.heap.size, 0, none⟩ = false := fun tt => block_loose (hgs tt) 0
      have f1 : ∀ tt, (W.setCell ⟨b, 2, none⟩ (.bool tt)).frozen? ⟨w.heap.size, 1, none⟩ = false := fun tt => block_loose (hgs tt) 1
      have f2 : ∀ tt, (W.setCell ⟨b, 2, none⟩ (.bool tt)).frozen? ⟨w.heap.size, 2, none⟩ = false := fun tt => block_loose (hgs tt) 2
      have HGS := Lib.hid hgs
      clear hgs
      simp only [List.getElem?_toArray, List.getElem?_cons_zero, List.getElem?_cons_succ] at b0 b1 b2
      have hDg : b < D := by omega
      clear hens hrow hv hB hg hK hxl y0 y1 y22
      by_cases h1 : wh < s.length
      · have h1i : (wh : Int) < (s.length : Int) := by omega
        have HTE := Lib.hid (show t = true by rw [← HTT.out, decide_eq_true h1]; rfl)
        gi_wp2
        have HEND := Lib.hid (load_end (w := w) (lim := b + 3) (f := (f : Int)) (v := .slice av xs.length cv) (xs := xs) (tt := true) (by omega) (Nat.le_refl _) hgb (by omega) (by omega) (HGS.out true) HROW.out HB7.out HK.out (.deferred none))
        refine ⟨by simp, .inl ⟨_, _, rfl, run_takeDeferred HEND.out.1, ?_⟩⟩
        have hend := HEND.out.2
        generalize (((((W.setCell ⟨b, 2, none⟩ (.bool true)).setCell ⟨w.heap.size, 0, none⟩ (.int .i64 (f : Int))).setCell ⟨w.heap.size, 1, none⟩ (.slice av xs.length cv)).setCell ⟨w.heap.size, 2, none⟩ (.bool true)).putObj D (.deferred none)) = E at hend ⊢
        obtain ⟨e1, e2, e3⟩ := hend
        have k0 := block_cell e1 0
        have k1 := block_cell e1 1
        have k2 := block_cell e1 2
        simp only [List.getElem?_toArray, List.getElem?_cons_zero, List.getElem?_cons_succ] at k0 k1 k2
        rw [HTE.out]
        exact ⟨.tuple #[.agg #[.int .i64 (f : Int), .slice av xs.length cv, .bool true], .int .i64 0], by simp [results, Tryz.results10, go_sem, k0, k1, k2], ⟨_, xs, rfl, HENS.out, e2⟩, e3⟩
      · have h1i : ¬ (wh : Int) < (s.length : Int) := by omega
        by_cases h2 : xs.length < qs.length
        · have h2i : (xs.length : Int) < (qs.length : Int) := by omega
          have HTE := Lib.hid (show t = true by rw [← HTT.out, decide_eq_false h1, decide_eq_true h2]; rfl)
          gi_wp2
          have HEND := Lib.hid (load_end (w := w) (lim := b + 3) (f := (f : Int)) (v := .slice av xs.length cv) (xs := xs) (tt := true) (by omega) (Nat.le_refl _) hgb (by omega) (by omega) (HGS.out true) HROW.out HB7.out HK.out (.deferred none))
          refine ⟨by simp, .inl ⟨_, _, rfl, run_takeDeferred HEND.out.1, ?_⟩⟩
          have hend := HEND.out.2
          generalize (((((W.setCell ⟨b, 2, none⟩ (.bool true)).setCell ⟨w.heap.size, 0, none⟩ (.int .i64 (f : Int))).setCell ⟨w.heap.size, 1, none⟩ (.slice av xs.length cv)).setCell ⟨w.heap.size, 2, none⟩ (.bool true)).putObj D (.deferred none)) = E at hend ⊢
          obtain ⟨e1, e2, e3⟩ := hend
          have k0 := block_cell e1 0
          have k1 := block_cell e1 1
          have k2 := block_cell e1 2
          simp only [List.getElem?_toArray, List.getElem?_cons_zero, List.getElem?_cons_succ] at k0 k1 k2
          rw [HTE.out]
          exact ⟨.tuple #[.agg #[.int .i64 (f : Int), .slice av xs.length cv, .bool true], .int .i64 0], by simp [results, Tryz.results10, go_sem, k0, k1, k2], ⟨_, xs, rfl, HENS.out, e2⟩, e3⟩
        · have h2i : ¬ (xs.length : Int) < (qs.length : Int) := by omega
          have HTE := Lib.hid (show t = false by rw [← HTT.out, decide_eq_false h1, decide_eq_false h2]; rfl)
          gi_wp2
          have HEND := Lib.hid (load_end (w := w) (lim := b + 3) (f := (f : Int)) (v := .slice av xs.length cv) (xs := xs) (tt := false) (by omega) (Nat.le_refl _) hgb (by omega) (by omega) (HGS.out false) HROW.out HB7.out HK.out (.deferred none))
          refine ⟨by simp, .inl ⟨_, _, rfl, run_takeDeferred HEND.out.1, ?_⟩⟩
          have hend := HEND.out.2
          generalize (((((W.setCell ⟨b, 2, none⟩ (.bool false)).setCell ⟨w.heap.size, 0, none⟩ (.int .i64 (f : Int))).setCell ⟨w.heap.size, 1, none⟩ (.slice av xs.length cv)).setCell ⟨w.heap.size, 2, none⟩ (.bool false)).putObj D (.deferred none)) = E at hend ⊢
          obtain ⟨e1, e2, e3⟩ := hend
          have k0 := block_cell e1 0
          have k1 := block_cell e1 1
          have k2 := block_cell e1 2
          simp only [List.getElem?_toArray, List.getElem?_cons_zero, List.getElem?_cons_succ] at k0 k1 k2
          rw [HTE.out]
          exact ⟨.tuple #[.agg #[.int .i64 (f : Int), .slice av xs.length cv, .bool false], .int .i64 0], by simp [results, Tryz.results10, go_sem, k0, k1, k2], ⟨_, xs, rfl, HENS.out, e2⟩, e3⟩
end Go.Proofs.YtmfhipjceeijmaaGreatDoor.G

/-
  The segment package: upTo, and the library's IndexFunc at entries.
-/
namespace Go.Proofs.YtmfhipjceeijmaaGreatDoor.G
open Go.RowKit
open D (dP)
attribute [local go_sem] ext_Bd ext_Bl ext_Bt toList_B add_B size_B get_Bt

set_option maxRecDepth 100000 in
set_option maxHeartbeats 1000000 in
theorem upTo1_l (e : R.En) (u : Value) (g : Nat) (last : Int) (w : World) (hu : ∃ a n c, u = .slice a n c) (hc : w.cell? ⟨g, 0, none⟩ = some (.int .i64 last)) :
    Calls Tryz.prog 92 #[enV e u, .pointer (some ⟨g, 0, none⟩)] w fun x w' => x = .returned (.bool (decide (last < e.pos))) ∧ Below w.heap.size w w' := by
  obtain ⟨pos, ep, ⟨st, ex, se, sq, evs⟩⟩ := e
  obtain ⟨ua, un, uc, rfl⟩ := hu
  have hc2 : ∀ o, (w.alloc o).cell? ⟨g, 0, none⟩ = some (.int .i64 last) := fun o => below_keeps ((Below.refl _ w).alloc (Nat.le_refl _) o) _ _ hc
  have hB := (Below.refl w.heap.size w).alloc (Nat.le_refl _) (.cells #[.int .i64 pos, .int .i64 ep, .string (B st), .int .i64 ex, .int .i64 se, .int .i64 sq, .slice ua un uc] 53)
  have HB := Lib.hid hB
  clear hB
  by_cases h : last < pos
  · go_enter Tryz.func92, Tryz.ntmps92
    go_wp2
    go_ret
    exact ⟨by simp [h], HB.out⟩
  · go_enter Tryz.func92, Tryz.ntmps92
    go_wp2
    go_ret
    exact ⟨by simp [h], HB.out⟩

set_option maxRecDepth 100000 in
set_option maxHeartbeats 2000000 in
theorem index_run (es : List EV) (v : Value) (g : Nat) (last : Int) (w : World) (hl : es.length ≤ 100000000) (hv : ReadsR w v es) (hc : w.cell? ⟨g, 0, none⟩ = some (.int .i64 last)) :
    Calls Tryz.prog 93 #[v, .func (.func 92) #[] #[.pointer (some ⟨g, 0, none⟩)]] w fun x w' =>
      ((∃ k : Nat, x = .returned (.int .i64 (k : Int)) ∧ ∃ h : k < es.length, last < es[k].1.pos ∧ ∀ i (h : i < es.length), i < k → es[i].1.pos ≤ last) ∨ (x = .returned (.int .i64 (-1)) ∧ ∀ i (h : i < es.length), es[i].1.pos ≤ last)) ∧ Below w.heap.size w w' := by
  have HV := Lib.hid hv
  have HC := Lib.hid hc
  obtain ⟨a, cap, rfl, _⟩ := hv
  clear hc
  go_enter Tryz.func93, Tryz.ntmps93
  go_wp2
  go_loopw [8] (fun i wr => ∃ k : Nat, i = .int .i64 k ∧ k ≤ es.length ∧ Hid (Below w.heap.size w wr) ∧ Hid (∀ i (h : i < es.length), i < k → es[i].1.pos ≤ last)) (fun i _ => es.length - (intOf i).toNat)
  case atStart => exact ⟨0, rfl, Nat.zero_le _, Lib.hid (Below.refl _ _), Lib.hid fun i _ hi => absurd hi (Nat.not_lt_zero _)⟩
  case round =>
    obtain ⟨k, rfl, hk, HB, HALL⟩ := hrel
    by_cases hlt : k < es.length
    · obtain ⟨a2, cap2, hve, _, _, hx⟩ := readsR_below HV.out HB.out
      cases hve
      obtain ⟨hre, -, b1, o1, rfl, h7⟩ := hx k hlt
      have hi1 : (k : Int) < (es.length : Int) := by omega
      obtain ⟨ea, en, ec, hu⟩ := readsE_form hre
      have HCL := Lib.hid (upTo1_l es[k].1 es[k].2 g last wr ⟨ea, en, ec, hu⟩ (below_keeps HB.out _ _ HC.out))
      have HNEXT := Lib.hid (show es[k].1.pos ≤ last → ∀ i (h : i < es.length), i < k + 1 → es[i].1.pos ≤ last from fun h0 i h hi => by
        rcases Nat.lt_succ_iff_lt_or_eq.1 hi with h2 | rfl
        · exact HALL.out i h h2
        · exact h0)
      have HHIT := Lib.hid (show last < es[k].1.pos → ∃ h : k < es.length, last < es[k].1.pos ∧ ∀ i (h : i < es.length), i < k → es[i].1.pos ≤ last from fun h0 => ⟨hlt, h0, HALL.out⟩)
      clear hre hx
      generalize es[k] = pe at *
      obtain ⟨e, u⟩ := pe
      dsimp only at h7 hu HCL HNEXT HHIT
      subst hu
      obtain ⟨c0, c1, c2, c3, c4, c5, c6⟩ := h7
      by_cases hp : last < e.pos
      · have HH := Lib.hid (HHIT.out hp)
        rw [decide_eq_true hp] at HCL
        clear hp HNEXT HHIT
        go_wp2_with fail
        refine HCL.out.mono ?_
        rintro x w2 ⟨rfl, hb2⟩
        go_wp2
        go_ret
        exact ⟨.inl ⟨k, rfl, HH.out⟩, HB.out.trans (hb2.mono HB.out.size)⟩
      · have HH := Lib.hid (HNEXT.out (by omega))
        rw [decide_eq_false hp] at HCL
        clear hp HNEXT HHIT
        go_wp2_with fail
        refine HCL.out.mono ?_
        rintro x w2 ⟨rfl, hb2⟩
        have HB2 := Lib.hid (HB.out.trans (hb2.mono HB.out.size))
        clear hb2
        go_wp2
        go_roundw
        case rel => exact ⟨k + 1, by go_num, by omega, HB2, HH⟩
        case measure => simp [intOf]; omega
    · have HE := Lib.hid (show ∀ i (h : i < es.length), es[i].1.pos ≤ last from fun i h => HALL.out i h (by omega))
      go_wp2
      go_ret
      exact ⟨.inr ⟨rfl, HE.out⟩, HB.out⟩
end Go.Proofs.YtmfhipjceeijmaaGreatDoor.G

/-
  The segment package: upTo, bodyOf.
-/
namespace Go.Proofs.YtmfhipjceeijmaaGreatDoor.G
open Go.RowKit
open D (dP)
attribute [local go_sem] ext_Bd ext_Bl ext_Bt toList_B add_B size_B get_Bt

theorem ensOf_take (es : List EV) (k : Nat) : ensOf (es.take k) = (ensOf es).take k := by simp [ensOf, List.map_take]
set_option maxRecDepth 100000 in
set_option maxHeartbeats 1000000 in
theorem upTo_l (es : List EV) (a : Option Addr) (cap : Nat) (last : Int) (w : World) (hl : es.length ≤ 100000000) (hv : ReadsR w (.slice a es.length cap) es) :
    Calls Tryz.prog 60 #[.slice a es.length cap, .int .i64 last] w fun x w' => (∃ k, x = .returned (.slice a k cap) ∧ k ≤ es.length ∧ upto last (ensOf es) = ensOf (es.take k)) ∧ Below w.heap.size w w' := by
  have hmf : ∀ fn first cap w, (Instr.makeFunc fn first cap).run Tryz.prog w = .ok (.func fn first cap) w := fun _ _ _ _ => rfl
  have HB0 := Lib.hid ((Below.refl w.heap.size w).alloc (Nat.le_refl _) (.cells #[.int .i64 last] 3))
  have HC0 := Lib.hid (show (w.alloc (.cells #[.int .i64 last] 3)).cell? ⟨w.heap.size, 0, none⟩ = some (.int .i64 last) by rw [World.cell?_alloc_new]; rfl)
  have HV := Lib.hid (readsR_below hv HB0.out)
  have hcap : es.length ≤ cap := by
    obtain ⟨a2, c2, hve, hc, _, _⟩ := hv
    cases hve
    exact hc
  have hlen : (ensOf es).length = es.length := ensOf_len es
  go_enter Tryz.func60, Tryz.ntmps60
  go_wp2_with fail
  generalize w.alloc (.cells #[.int .i64 last] 3) = W at *
  refine (index_run es _ w.heap.size last W hl HV.out HC0.out).mono ?_
  rintro x w1 ⟨(⟨k, rfl, hk, h1, h2⟩ | ⟨rfl, h2⟩), hb1⟩
  · have HB1 := Lib.hid (HB0.out.trans (hb1.mono HB0.out.size))
    have HU := Lib.hid (show upto last (ensOf es) = ensOf (es.take k) by
      rw [ensOf_take]
      exact upto_of (by omega) (fun i h hi => by simpa [ensOf] using h2 i (by omega) hi) (fun h => by simpa [ensOf] using h1))
    have hk0 : (0 : Int) ≤ (k : Int) := by omega
    have hk1 : (k : Int) ≤ (cap : Int) := by omega
    clear hb1 h1 h2 HV HB0 hlen
    go_wp2
    go_ret
    exact ⟨⟨k, rfl, Nat.le_of_lt hk, HU.out⟩, HB1.out⟩
  · have HB1 := Lib.hid (HB0.out.trans (hb1.mono HB0.out.size))
    have HU := Lib.hid (show upto last (ensOf es) = ensOf (es.take es.length) by
      rw [ensOf_take]
      exact upto_of (by omega) (fun i h hi => by simpa [ensOf] using h2 i hi) (fun h => absurd h (by omega)))
    clear hb1 h2 HV HB0 hlen
    go_wp2
    go_ret
    exact ⟨⟨es.length, rfl, Nat.le_refl _, HU.out⟩, HB1.out⟩

theorem grown0 {w w' : World} (h : w.grownBy w' none) : Below w.heap.size w w' := ⟨h.os, h.tape, h.output, h.size, fun k hk => h.block k hk (by simp)⟩
theorem pays_snoc (l : List EV) (p : EV) : strCells ((ensOf (l ++ [p])).map pay) = strCells ((ensOf l).map pay) ++ [.string (B (pay p.1))] := by simp [ensOf, strCells]
set_option maxRecDepth 100000 in
set_option maxHeartbeats 4000000 in
theorem bodyOf_l (es : List EV) (v : Value) (w : World) (hl : es.length ≤ 100000000) (hv : ReadsR w v es) (hr : ∀ p ∈ es, R.right p.1 = true) :
    Calls Tryz.prog 55 #[v] w fun x w' => (∃ va, x = .returned va ∧ w'.ownsRow w.heap.size 9 1 va es.length (strCells ((ensOf es).map pay))) ∧ Below w.heap.size w w' := by
  obtain ⟨i0, hi, hz0, hz1, hz2⟩ := info_parts Tryz.infoStr
  have HV := Lib.hid hv
  have HR := Lib.hid hr
  obtain ⟨a, cap, rfl, _⟩ := hv
  clear hr
  go_enter Tryz.func55, Tryz.ntmps55
  go_wp2_with (at_make; refine wpList_make_own _ rfl _ _ 67 rfl w.heap.size 9 i0 (.string ⟨#[]⟩) 1 Tryz.underlying67 hi hz0 hz1 .i64 .i64 _ es.length rfl rfl rfl (by rw [hz2]; omega) (by unfold maxLen; omega) (Nat.le_refl _) ?_; intro w9 hown9 hgrow9; have HB9 := Lib.hid (grown0 hgrow9); have HO9 := Lib.hid hown9; clear hgrow9 hown9)
  go_loopw [3, 11] (fun b i wr => ∃ (k : Nat) (vb : Value), b = vb ∧ i = .int .i64 k ∧ k ≤ es.length ∧ Hid (wr.ownsRow w.heap.size 9 1 vb k (strCells ((ensOf (es.take k)).map pay))) ∧ Hid (Below w.heap.size w wr)) (fun _ i _ => es.length - (intOf i).toNat)
  case atStart => exact ⟨0, _, rfl, rfl, Nat.zero_le _, HO9, HB9⟩
  case round =>
    obtain ⟨k, vb, rfl, rfl, hk, HO, HB⟩ := hrel
    by_cases hlt : k < es.length
    · obtain ⟨a2, cap2, hve, _, _, hx⟩ := readsR_below HV.out HB.out
      cases hve
      obtain ⟨hre, hpos, b1, o1, rfl, h7⟩ := hx k hlt
      have hi1 : (k : Int) < (es.length : Int) := by omega
      have hrt := HR.out es[k] (List.getElem_mem hlt)
      have HSM := Lib.hid (en_right_small hrt)
      have HPE := Lib.hid (R.putEn_ok hrt)
      have hsz := en_small hrt
      have HSN := Lib.hid (show strCells ((ensOf (es.take (k + 1))).map pay) = strCells ((ensOf (es.take k)).map pay) ++ [.string (B (pay es[k].1))] by
        rw [List.take_succ_eq_append_getElem hlt, pays_snoc])
      clear hx hrt
      generalize es[k] = pe at *
      obtain ⟨⟨pos, ep, ⟨st, ex, se, sq, evs⟩⟩, u⟩ := pe
      dsimp only at h7 hre HSN HSM HPE hsz
      obtain ⟨ea, ec, rfl, _⟩ := id hre
      obtain ⟨bs, hbs⟩ : ∃ bs, R.bytes (⟨pos, ep, ⟨st, ex, se, sq, evs⟩⟩ : R.En) = bs := ⟨_, rfl⟩
      rw [hbs] at HPE hsz
      have HPAY := Lib.hid (show pay (⟨pos, ep, ⟨st, ex, se, sq, evs⟩⟩ : R.En) = 101 :: bs by unfold pay; rw [hbs])
      rw [HPAY.out] at HSN
      obtain ⟨c0, c1, c2, c3, c4, c5, c6⟩ := h7
      have HAL := Lib.hid (show Below wr.heap.size wr (wr.alloc (.cells #[.int .i64 pos, .int .i64 ep, .string (B st), .int .i64 ex, .int .i64 se, .int .i64 sq, .slice ea evs.length ec] 53)) from (Below.refl _ wr).alloc (Nat.le_refl _) _)
      have HRE := Lib.hid (readsE_below hre HAL.out)
      clear hre hbs HPAY
      go_wp2_with fail
      refine (Put6_at (⟨pos, ep, ⟨st, ex, se, sq, evs⟩⟩ : R.En) (.slice ea evs.length ec) bs _ HRE.out HSM.out HPE).mono ?_
      rintro x w2 ⟨rfl, hb2⟩
      have HB2 := Lib.hid (HB.out.trans ((HAL.out.trans (hb2.mono HAL.out.size)).mono HB.out.size))
      have HO2 := Lib.hid (own_below (own_below HO.out HAL.out) hb2)
      clear hb2
      go_wp2_with (at_builtin; refine wpList_append_own _ rfl _ _ 67 rfl w.heap.size 9 i0 (.string ⟨#[]⟩) 1 16 Tryz.underlying67 hi hz0 hz1 hz2 rfl (by decide) _ _ _ rfl (HO2.out.alloc _) ⟨w2.heap.size, 0, none⟩ 1 1 [.string (B (101 :: bs))] rfl rfl (cell_one_new _ _ _) (by intro u hu; simp at hu; subst hu; rfl) (by unfold maxLen; omega) (by omega) (by have := HB2.out.size; simp; omega) ?_; intro v' w3 hown3 hgrow3 _; have HB3 := Lib.hid (below_grown HB2.out HB2.out.size HO2.out hgrow3); have HO3 := Lib.hid hown3; clear hown3 hgrow3)
      rw [← HSN.out] at HO3
      go_wp2
      go_roundw
      case rel => exact ⟨k + 1, v', rfl, by go_num, by omega, HO3, HB3⟩
      case measure => simp [intOf]; omega
    · have HT := Lib.hid (show es.take k = es from List.take_of_length_le (by omega))
      have hke : k = es.length := by omega
      have HKE := Lib.hid hke
      rw [HT.out] at HO
      clear hke HT
      go_wp2
      go_ret
      rw [← HKE.out]
      exact ⟨⟨_, rfl, HO.out⟩, HB.out⟩
end Go.Proofs.YtmfhipjceeijmaaGreatDoor.G

/-
  The document's answer for segments: Bytes.
-/
namespace Go.Proofs.YtmfhipjceeijmaaGreatDoor.G
open Go.RowKit
open D (dP)
attribute [local go_sem] ext_Bd ext_Bl ext_Bt toList_B add_B size_B get_Bt

theorem en_right_tiny {e : R.En} (h : R.right e = true) : E.Tiny e.b := by
  obtain ⟨_, _, _, _, hf⟩ := R.right_iff.1 h
  obtain ⟨⟨hst, _⟩, _, hall⟩ := E.fits_inv hf
  have := (nameL_len hst).2
  refine ⟨by omega, fun _ e he => ?_⟩
  have := E.right_bd (List.all_eq_true.1 hall e he)
  omega
set_option maxRecDepth 100000 in
set_option maxHeartbeats 4000000 in
theorem rBytes_l (f : Nat) (es : List EV) (v : Value) (s : Tx) (w : World) (hf : f ≤ far) (hl : es.length ≤ 900) (hv : ReadsR w v es) (hr : ∀ p ∈ es, R.right p.1 = true) (HS : Hid (segB f (ensOf es) = s)) :
    Calls Tryz.prog 47 #[.int .i64 (f : Int), v] w fun x w' => x = .returned (.string (B s)) ∧ Below w.heap.size w w' := by
  obtain ⟨i0, hi, hz0, hz1, hz2⟩ := info_parts Tryz.infoStr
  have HV := Lib.hid hv
  have HR := Lib.hid hr
  obtain ⟨a, cap, rfl, _⟩ := hv
  clear hr
  obtain ⟨hd, hhd⟩ : ∃ hd, N.putL f = hd := ⟨_, rfl⟩
  have HP : Hid (N.putL (N.held (f : Int)) = hd) := Lib.hid (by rw [← hhd, show N.held (f : Int) = f by unfold far at hf; unfold N.held; omega])
  have HHD := Lib.hid (show headP f = 115 :: hd by unfold headP; rw [hhd])
  clear hhd
  have hhl : hd.length ≤ 6 := by have := held6 (f : Int); rw [HP.out] at this; exact this
  go_enter Tryz.func47, Tryz.ntmps47
  go_wp2_with fail
  refine (refNPut_at (f : Int) hd w HP).mono ?_
  rintro x w1 ⟨rfl, hb1⟩
  have HO1 : Hid ((w1.alloc (.cells #[.string (B (115 :: hd))] 9)).ownsRow w.heap.size 9 1 (.slice (some ⟨w1.heap.size, 0, none⟩) 1 1) 1 (strCells [headP f])) := Lib.hid (by
    rw [HHD.out]
    exact World.ownsRow_lit w1 #[.string (B (115 :: hd))] 1 hb1.size (by decide) rfl)
  have HB1 : Hid (Below w.heap.size w (w1.alloc (.cells #[.string (B (115 :: hd))] 9))) := Lib.hid (hb1.alloc hb1.size _)
  clear hb1
  have hc : (⟨#[115]⟩ : ByteArray) ++ B hd = B (115 :: hd) := add_B [115] hd
  go_wp2
  generalize w1.alloc (.cells #[.string (B (115 :: hd))] 9) = W at *
  have HRS0 := Lib.hid (show rows f (ensOf (es.take 0)) = [headP f] from rfl)
  rw [← HRS0.out] at HO1
  go_loopw [5, 6] (fun b i wr => ∃ (k : Nat) (vb : Value), b = vb ∧ i = .int .i64 k ∧ k ≤ es.length ∧ Hid (wr.ownsRow w.heap.size 9 1 vb (k + 1) (strCells (rows f (ensOf (es.take k))))) ∧ Hid (Below w.heap.size w wr)) (fun _ i _ => es.length - (intOf i).toNat)
  case atStart => exact ⟨0, _, rfl, rfl, Nat.zero_le _, HO1, HB1⟩
  case round =>
    clear HO1 HB1
    obtain ⟨k, vb, rfl, rfl, hk, HO, HB⟩ := hrel
    obtain ⟨g1, cp1, rfl⟩ := ownsRow_succ HO.out
    by_cases hlt : k < es.length
    · obtain ⟨a2, cap2, hve, _, _, hx⟩ := readsR_below HV.out HB.out
      cases hve
      obtain ⟨hre, hpos, b1, o1, rfl, h7⟩ := hx k hlt
      have hi1 : (k : Int) < (es.length : Int) := by omega
      have hrt := HR.out es[k] (List.getElem_mem hlt)
      have HSM := Lib.hid (en_right_tiny hrt)
      have HPE := Lib.hid (R.putEn_ok hrt)
      have hsz := en_small hrt
      have HSN := Lib.hid (show strCells (rows f (ensOf (es.take (k + 1)))) = strCells (rows f (ensOf (es.take k))) ++ [.string (B (pay es[k].1))] by
        rw [List.take_succ_eq_append_getElem hlt]; generalize es.take k = tk; simp [rows, ensOf, strCells])
      clear hx hrt
      generalize es[k] = pe at *
      obtain ⟨⟨pos, ep, ⟨st, ex, se, sq, evs⟩⟩, u⟩ := pe
      dsimp only at h7 hre HSN HSM HPE hsz
      obtain ⟨ea, ec, rfl, _⟩ := id hre
      obtain ⟨bs, hbs⟩ : ∃ bs, R.bytes (⟨pos, ep, ⟨st, ex, se, sq, evs⟩⟩ : R.En) = bs := ⟨_, rfl⟩
      rw [hbs] at HPE hsz
      have HPAY := Lib.hid (show pay (⟨pos, ep, ⟨st, ex, se, sq, evs⟩⟩ : R.En) = 101 :: bs by unfold pay; rw [hbs])
      rw [HPAY.out] at HSN
      obtain ⟨c0, c1, c2, c3, c4, c5, c6⟩ := h7
      clear hbs HPAY
      go_wp2_with fail
      refine (refPut6_at (⟨pos, ep, ⟨st, ex, se, sq, evs⟩⟩ : R.En) (.slice ea evs.length ec) bs _ hre HSM.out HPE).mono ?_
      rintro x w2 ⟨rfl, hb2⟩
      have HB2 := Lib.hid (HB.out.trans (hb2.mono HB.out.size))
      have HO2 := Lib.hid (own_below HO.out hb2)
      have hc2 : (⟨#[101]⟩ : ByteArray) ++ B bs = B (101 :: bs) := add_B [101] bs
      clear hb2 hre c0 c1 c2 c3 c4 c5 c6
      go_wp2_with (at_builtin; refine wpList_append_own _ rfl _ _ 67 rfl w.heap.size 9 i0 (.string ⟨#[]⟩) 1 16 Tryz.underlying67 hi hz0 hz1 hz2 rfl (by decide) _ _ _ rfl (HO2.out.alloc _) ⟨w2.heap.size, 0, none⟩ 1 1 [.string (B (101 :: bs))] rfl rfl (cell_one_new _ _ _) (by intro u hu; simp at hu; subst hu; rfl) (by unfold maxLen; omega) (by omega) (by have := HB2.out.size; simp; omega) ?_; intro v' w3 hown3 hgrow3 _; have HB3 := Lib.hid (below_grown HB2.out HB2.out.size HO2.out hgrow3); have HO3 := Lib.hid hown3; clear hown3 hgrow3)
      rw [← HSN.out] at HO3
      go_wp2
      go_roundw
      case rel => exact ⟨k + 1, v', rfl, by go_num, by omega, HO3, HB3⟩
      case measure => simp [intOf]; omega
    · have HT := Lib.hid (show es.take k = es from List.take_of_length_le (by omega))
      rw [HT.out] at HO
      have hgd : ∀ p ∈ rows f (ensOf es), F.good p := rows_good hf fun e he => by
        obtain ⟨p, hp, rfl⟩ := List.mem_map.1 he
        exact HR.out p hp
      have HRS := Lib.hid (show rowS (rows f (ensOf es)) = s by rw [rowS_ok (F.codes_good hgd), ← HS.out]; rfl)
      have HCD := Lib.hid (F.codes_good hgd)
      have HRD := Lib.hid (reads_own HO.out)
      have hlen : (rows f (ensOf es)).length ≤ 1000 := by simp [rows]; omega
      clear HT hgd
      go_wp2_with fail
      refine (refFRow_at (rows f (ensOf es)) s 0 _ _ HRD.out hlen HRS HCD).mono ?_
      rintro x w2 ⟨rfl, hb2⟩
      have HB2 := Lib.hid (HB.out.trans (hb2.mono HB.out.size))
      clear hb2
      go_wp2
      go_ret
      exact ⟨rfl, HB2.out⟩
end Go.Proofs.YtmfhipjceeijmaaGreatDoor.G

/-
  The document's answer for segments: Create.
-/
namespace Go.Proofs.YtmfhipjceeijmaaGreatDoor.G
open Go.RowKit
open D (dP MAt Kp)
attribute [local go_sem] ext_Bd ext_Bl ext_Bt toList_B add_B size_B get_Bt

set_option maxRecDepth 100000 in
set_option maxHeartbeats 4000000 in
theorem rCreate_no {bs p room : Nat} {l : List D.F} (n first : Int) (w : World) (hm : MAt bs w p (room : Int) l) (h : nameS n = [] ∨ first < 1 ∨ (far : Int) < first) :
    Calls Tryz.prog 21 #[dP p, .int .i64 n, .int .i64 first] w fun x w' => x = .returned (.int .i64 1) ∧ MAt bs w' p (room : Int) l ∧ Kp bs p w w' := by
  have HM := Lib.hid hm
  clear hm
  unfold far at h
  by_cases h0 : nameS n = []
  · have hb : (nameS n).isEmpty = true := by rw [h0]; rfl
    clear h h0
    go_enter Tryz.func21, Tryz.ntmps21
    go_wp2_with fail
    refine (rName_l n w).mono ?_
    rintro x w1 ⟨rfl, rfl⟩
    generalize nameS n = nm at *
    go_wp2
    go_ret
    exact ⟨rfl, HM.out, Kp.refl _ _⟩
  · have hb : (nameS n).isEmpty = false := by cases hn : nameS n with | nil => exact absurd hn h0 | cons _ _ => rfl
    by_cases h1 : first < 1
    · clear h
      go_enter Tryz.func21, Tryz.ntmps21
      go_wp2_with fail
      refine (rName_l n w).mono ?_
      rintro x w1 ⟨rfl, rfl⟩
      generalize nameS n = nm at *
      go_wp2
      go_ret
      exact ⟨rfl, HM.out, Kp.refl _ _⟩
    · have h2 : 274877906944 < first := by rcases h with h | h | h; exact absurd h h0; exact absurd h h1; exact h
      clear h
      go_enter Tryz.func21, Tryz.ntmps21
      go_wp2_with fail
      refine (rName_l n w).mono ?_
      rintro x w1 ⟨rfl, rfl⟩
      generalize nameS n = nm at *
      go_wp2
      go_ret
      exact ⟨rfl, HM.out, Kp.refl _ _⟩

theorem readsR_nil (w : World) : ReadsR w (.slice none 0 0) [] := ⟨none, 0, rfl, Nat.le_refl _, fun _ => rfl, fun i hi => by simp at hi⟩
theorem data_le {room : Nat} {l : List D.F} (hI : D.Inv room l) {f : D.F} (hf : f ∈ l) : f.data.length ≤ room := by
  have h := hI.room
  have := D.used_mem hf
  omega
set_option maxRecDepth 100000 in
set_option maxHeartbeats 4000000 in
theorem rCreate_l {bs p room : Nat} {l : List D.F} (n first : Int) (e : Nat) (l2 : List D.F) (w : World) (hm : MAt bs w p (room : Int) l) (hI : D.Inv room l) (hroom : room ≤ 100000000) (H : createD room (nameS n) first l = (e, l2)) :
    Calls Tryz.prog 21 #[dP p, .int .i64 n, .int .i64 first] w fun x w' => x = .returned (.int .i64 (e : Int)) ∧ MAt bs w' p (room : Int) l2 ∧ Kp bs p w w' := by
  unfold createD at H
  by_cases hno : nameS n = [] ∨ first < 1 ∨ (far : Int) < first
  · rw [if_pos hno] at H
    cases H
    exact rCreate_no n first w hm hno
  rw [if_neg hno] at H
  have h0 : ¬ nameS n = [] := fun h => hno (.inl h)
  have h1 : ¬ first < 1 := fun h => hno (.inr (.inl h))
  have h2 : ¬ 274877906944 < first := fun h => hno (.inr (.inr h))
  have hb : (nameS n).isEmpty = false := by cases hn : nameS n with | nil => exact absurd hn h0 | cons _ _ => rfl
  have hnl : (nameS n).length ≤ 1000000 := by have := name_len n; omega
  clear hno
  obtain ⟨nm, HN⟩ : ∃ nm, Hid (nameS n = nm) := ⟨_, Lib.hid rfl⟩
  have HM := Lib.hid hm
  have HI := Lib.hid hI
  clear hm
  cases hf : D.find (nameS n) l with
  | some f =>
    rw [hf] at H
    cases H
    have HRD : Hid (D.read nm l = (f.data, 0)) := Lib.hid (by unfold D.read; rw [← HN.out, hf])
    rw [HN.out] at hb h0
    clear hf hnl
    go_enter Tryz.func21, Tryz.ntmps21
    go_wp2_with fail
    refine (rName_l n w).mono ?_
    rintro x w1 ⟨rfl, rfl⟩
    rw [HN.out]
    go_wp2_with fail
    refine (rName_l n w1).mono ?_
    rintro x w2 ⟨rfl, rfl⟩
    rw [HN.out]
    go_wp2_with fail
    refine (D.mRead_l p room l nm f.data 0 w2 HM.out HI.out.sorted (by have := HI.out.many; omega) HRD).mono ?_
    rintro x w3 ⟨rfl, hq⟩
    have HM3 := Lib.hid (HM.out.quiet hq)
    have HK3 := Lib.hid (Kp.quiet (bs := bs) (p := p) hq)
    clear hq
    go_wp2
    go_ret
    exact ⟨rfl, HM3.out, HK3.out⟩
  | none =>
    rw [hf] at H
    have HRD : Hid (D.read nm l = ([], 6)) := Lib.hid (by unfold D.read; rw [← HN.out, hf])
    have HDL : Hid (D.delete nm l = (6, l)) := Lib.hid (by unfold D.delete; rw [← HN.out, hf])
    obtain ⟨k, hk⟩ : ∃ k : Nat, first = (k : Int) := ⟨first.toNat, by omega⟩
    subst hk
    rw [Int.toNat_natCast] at H
    have hkf : k ≤ far := by unfold far; omega
    obtain ⟨s, HS⟩ : ∃ s, Hid (segB k (ensOf []) = s) := ⟨_, Lib.hid rfl⟩
    have hsl : s.length ≤ 40 := by rw [← HS.out]; have := segB_len (es := []) hkf (by simp); simp only [List.length_nil] at this; show (segB k []).length ≤ 40; omega
    rw [show segB k [] = s from HS.out, HN.out] at H
    rw [HN.out] at hb h0 hnl
    obtain ⟨e1, l1, HAP⟩ : ∃ e1 l1, Hid (D.append room nm s l = (e1, l1)) := ⟨_, _, Lib.hid rfl⟩
    rw [HAP.out] at H
    dsimp only at H
    have hI1 : D.Inv room l1 := by have := HI.out.append (n := nm) (s := s); rw [HAP.out] at this; exact this
    have HI1 := Lib.hid hI1
    have HU := Lib.hid (show D.used l ≤ 4000000000 by have := HI.out.room; omega)
    clear hf hI1
    go_enter Tryz.func21, Tryz.ntmps21
    go_wp2_with fail
    refine (rName_l n w).mono ?_
    rintro x w1 ⟨rfl, rfl⟩
    rw [HN.out]
    go_wp2_with fail
    refine (rName_l n w1).mono ?_
    rintro x w2 ⟨rfl, rfl⟩
    rw [HN.out]
    go_wp2_with fail
    refine (D.mRead_l p room l nm [] 6 w2 HM.out HI.out.sorted (by have := HI.out.many; omega) HRD).mono ?_
    rintro x w3 ⟨rfl, hq⟩
    have HM3 := Lib.hid (HM.out.quiet hq)
    have HK3 := Lib.hid (Kp.quiet (bs := bs) (p := p) hq)
    clear hq
    go_wp2_with fail
    refine (rName_l n w3).mono ?_
    rintro x w4 ⟨rfl, rfl⟩
    rw [HN.out]
    go_wp2_with fail
    refine (rBytes_l k [] (.slice none 0 0) s w4 hkf (by simp) (readsR_nil w4) (by simp) HS).mono ?_
    rintro x w5 ⟨rfl, hb5⟩
    have HM5 := Lib.hid (HM3.out.below hb5)
    have HK5 := Lib.hid (HK3.out.trans (Kp.of_below hb5))
    clear hb5
    go_wp2_with fail
    refine (D.mAppend_l p room l nm s e1 l1 w5 HM5.out HI.out.sorted HI.out.many hnl (by omega) HU.out HAP).mono ?_
    rintro x w6 ⟨rfl, hm6, hk6⟩
    have HM6 := Lib.hid hm6
    have HK6 := Lib.hid (HK5.out.trans hk6)
    clear hm6 hk6
    by_cases he : e1 = 0
    · subst he
      rw [if_pos rfl] at H
      go_wp2_with fail
      refine (rName_l n w6).mono ?_
      rintro x w7 ⟨rfl, rfl⟩
      rw [HN.out]
      go_wp2_with fail
      refine (D.mSync_l p room l1 nm e l2 w7 HM6.out HI1.out.sorted (by have := HI1.out.many; omega) (fun f hf => by have := data_le HI1.out hf; omega) (Lib.hid H)).mono ?_
      rintro x w8 ⟨rfl, hm8, hk8⟩
      have HK8 := Lib.hid (HK6.out.trans hk8)
      have HM8 := Lib.hid hm8
      clear hm8 hk8
      go_wp2
      go_ret
      exact ⟨rfl, HM8.out, HK8.out⟩
    · rw [if_neg he] at H
      have hei : ((e1 : Int) == 0) = false := beq_eq_false_iff_ne.2 (by omega)
      have hl1 : l1 = l := by have := append_err (room := room) (nm := nm) (s := s) (l := l) (by rw [HAP.out]; exact he); rw [HAP.out] at this; exact this
      subst hl1
      go_wp2_with fail
      refine (rName_l n w6).mono ?_
      rintro x w7 ⟨rfl, rfl⟩
      rw [HN.out]
      go_wp2_with fail
      refine (D.mDelete_l p room l1 nm 6 l1 w7 HM6.out HI.out.sorted HI.out.many HDL).mono ?_
      rintro x w8 ⟨rfl, hm8, hk8, -⟩
      have HK8 := Lib.hid (HK6.out.trans (hk8.kp hm8.1))
      have HM8 := Lib.hid hm8
      clear hm8 hk8
      cases H
      go_wp2
      go_ret
      exact ⟨rfl, HM8.out, HK8.out⟩
end Go.Proofs.YtmfhipjceeijmaaGreatDoor.G

/-
  The document's answer for segments: Load, where there is no segment.
-/
namespace Go.Proofs.YtmfhipjceeijmaaGreatDoor.G
open Go.RowKit
open D (dP MAt Kp)
attribute [local go_sem] ext_Bd ext_Bl ext_Bt toList_B add_B size_B get_Bt

theorem set_tri {w : World} {g : Nat} {x0 x1 x2 a0 a1 a2 : Value} {t : TypeId} (h : w.heap[g]? = some (.cells #[x0, x1, x2] t (0, 0))) :
    (((w.setCell ⟨g, 0, none⟩ a0).setCell ⟨g, 1, none⟩ a1).setCell ⟨g, 2, none⟩ a2).heap[g]? = some (.cells #[a0, a1, a2] t (0, 0)) := set_block (set_block (set_block h 0 a0) 1 a1) 2 a2
theorem below_tri {w w' : World} {g : Nat} (h : Below w.heap.size w w') (hg : w.heap.size ≤ g) (a0 a1 a2 : Value) :
    Below w.heap.size w (((w'.setCell ⟨g, 0, none⟩ a0).setCell ⟨g, 1, none⟩ a1).setCell ⟨g, 2, none⟩ a2) :=
  ((h.setCell (p := ⟨g, 0, none⟩) hg a0).setCell (p := ⟨g, 1, none⟩) hg a1).setCell (p := ⟨g, 2, none⟩) hg a2
abbrev zSeg : Obj := .cells #[.int .i64 0, .slice none 0 0, .bool false] 42
structure TS (w w' : World) : Prop where
  res : w'.heap[w.heap.size]? = some zSeg
  below : Below w.heap.size w w'
theorem TS.new (w : World) : TS w (w.alloc zSeg) := ⟨World.alloc_heap_new w _, (Below.refl _ w).alloc (Nat.le_refl _) _⟩
theorem TS.call {w a b : World} (h : TS w a) (hb : Below a.heap.size a b) : TS w b := ⟨block_below h.res hb, h.below.trans (hb.mono h.below.size)⟩
abbrev zSegV : Value := .agg #[.int .i64 0, .slice none 0 0, .bool false]

set_option maxRecDepth 100000 in
set_option maxHeartbeats 4000000 in
theorem rLoad_none {bs p room : Nat} {l : List D.F} (n : Int) (w : World) (hm : MAt bs w p (room : Int) l) (hI : D.Inv room l) (hf : D.find (nameS n) l = none) :
    Calls Tryz.prog 11 #[dP p, .int .i64 n] w fun x w' => x = .returned (.tuple #[zSegV, .int .i64 6]) ∧ Below w.heap.size w w' := by
  obtain ⟨nm, HN⟩ : ∃ nm, Hid (nameS n = nm) := ⟨_, Lib.hid rfl⟩
  have HB := Lib.hid (TS.new w)
  have HM := Lib.hid (hm.below ((Below.refl _ w).alloc (Nat.le_refl _) zSeg))
  have HRD : Hid (D.read nm l = ([], 6)) := Lib.hid (by unfold D.read; rw [← HN.out, hf])
  clear hf hm
  go_enter Tryz.func11, Tryz.ntmps11
  go_wp2_with fail
  refine (rName_l n _).mono ?_
  rintro x w1 ⟨rfl, rfl⟩
  rw [HN.out]
  go_wp2_with fail
  refine (D.mRead_l p room l nm [] 6 _ HM.out hI.sorted (by have := hI.many; omega) HRD).mono ?_
  rintro x w3 ⟨rfl, hq⟩
  have HB3 := Lib.hid (HB.out.call (below_ofq hq))
  clear hq HB HM
  have a0 := block_cell HB3.out.res 0
  have a1 := block_cell HB3.out.res 1
  have a2 := block_cell HB3.out.res 2
  simp at a0 a1 a2
  have l0 := block_loose HB3.out.res 0
  have l1 := block_loose HB3.out.res 1
  have l2 := block_loose HB3.out.res 2
  go_wp2
  have HK := Lib.hid (set_tri (a0 := .int .i64 0) (a1 := .slice none 0 0) (a2 := .bool false) HB3.out.res)
  have HB4 := Lib.hid (below_tri HB3.out.below (Nat.le_refl _) (.int .i64 0) (.slice none 0 0) (.bool false))
  generalize ((w3.setCell ⟨w.heap.size, 0, none⟩ (.int .i64 0)).setCell ⟨w.heap.size, 1, none⟩ (.slice none 0 0)).setCell ⟨w.heap.size, 2, none⟩ (.bool false) = w9 at *
  have k0 := block_cell HK.out 0
  have k1 := block_cell HK.out 1
  have k2 := block_cell HK.out 2
  simp only [List.getElem?_toArray, List.getElem?_cons_zero, List.getElem?_cons_succ] at k0 k1 k2
  exact bodyPost_ret (v := .tuple #[zSegV, .int .i64 6]) (by simp [results, Tryz.results11, go_sem, k0, k1, k2]) rfl ⟨rfl, HB4.out⟩
end Go.Proofs.YtmfhipjceeijmaaGreatDoor.G

/-
  The document's answer for segments: Load, where the bytes are no segment's.
-/
namespace Go.Proofs.YtmfhipjceeijmaaGreatDoor.G
open Go.RowKit
open D (dP MAt Kp)
attribute [local go_sem] ext_Bd ext_Bl ext_Bt toList_B add_B size_B get_Bt

theorem own_sl {w : World} {b : Nat} {e : TypeId} {sz : Nat} {v : Value} {n : Nat} {xs : List Value} (h : w.ownsRow b e sz v n xs) : ∃ a c, v = .slice a n c := by
  rcases h.2 with ⟨rfl, rfl⟩ | ⟨g, cap, cur, rfl, _⟩
  · exact ⟨none, 0, rfl⟩
  · exact ⟨_, _, rfl⟩

set_option maxRecDepth 100000 in
set_option maxHeartbeats 4000000 in
theorem rLoad_empty {bs p room : Nat} {l : List D.F} (n : Int) (s : Tx) (f : D.F) (w : World) (hm : MAt bs w p (room : Int) l) (hI : D.Inv room l) (hroom : room ≤ 6000) (hf : D.find (nameS n) l = some f) (hs : f.data = s) (h : (F.scan s).1 = []) :
    Calls Tryz.prog 11 #[dP p, .int .i64 n] w fun x w' => x = .returned (.tuple #[zSegV, .int .i64 2]) ∧ Below w.heap.size w w' := by
  obtain ⟨nm, HN⟩ : ∃ nm, Hid (nameS n = nm) := ⟨_, Lib.hid rfl⟩
  have HB := Lib.hid (TS.new w)
  have HM := Lib.hid (hm.below ((Below.refl _ w).alloc (Nat.le_refl _) zSeg))
  have HRD : Hid (D.read nm l = (s, 0)) := Lib.hid (by unfold D.read; rw [← HN.out, hf, ← hs])
  have hsl : s.length ≤ 1000000 := by rw [← hs]; have := data_le hI (D.find_some hf).1; omega
  clear hf hm hs
  go_enter Tryz.func11, Tryz.ntmps11
  go_wp2_with fail
  refine (rName_l n _).mono ?_
  rintro x w1 ⟨rfl, rfl⟩
  rw [HN.out]
  go_wp2_with fail
  refine (D.mRead_l p room l nm s 0 _ HM.out hI.sorted (by have := hI.many; omega) HRD).mono ?_
  rintro x w3 ⟨rfl, hq⟩
  have HB3 := Lib.hid (HB.out.call (below_ofq hq))
  clear hq HB HM
  go_wp2_with fail
  refine (refFScan_l s w3 hsl).mono ?_
  rintro x w4 ⟨v, rfl, hown, hb4⟩
  have HB4 := Lib.hid (HB3.out.call hb4)
  clear hb4 HB3
  obtain ⟨va, vc, rfl⟩ := own_sl hown
  have HO := Lib.hid hown
  clear hown
  rw [h] at HO
  rw [h]
  have a0 := block_cell HB4.out.res 0
  have a1 := block_cell HB4.out.res 1
  have a2 := block_cell HB4.out.res 2
  simp at a0 a1 a2
  have l0 := block_loose HB4.out.res 0
  have l1 := block_loose HB4.out.res 1
  have l2 := block_loose HB4.out.res 2
  go_wp2
  have HK := Lib.hid (set_tri (a0 := .int .i64 0) (a1 := .slice none 0 0) (a2 := .bool false) HB4.out.res)
  have HB9 := Lib.hid (below_tri HB4.out.below (Nat.le_refl _) (.int .i64 0) (.slice none 0 0) (.bool false))
  generalize ((w4.setCell ⟨w.heap.size, 0, none⟩ (.int .i64 0)).setCell ⟨w.heap.size, 1, none⟩ (.slice none 0 0)).setCell ⟨w.heap.size, 2, none⟩ (.bool false) = w9 at *
  have k0 := block_cell HK.out 0
  have k1 := block_cell HK.out 1
  have k2 := block_cell HK.out 2
  simp only [List.getElem?_toArray, List.getElem?_cons_zero, List.getElem?_cons_succ] at k0 k1 k2
  exact bodyPost_ret (v := .tuple #[zSegV, .int .i64 2]) (by simp [results, Tryz.results11, go_sem, k0, k1, k2]) rfl ⟨rfl, HB9.out⟩

set_option maxRecDepth 100000 in
set_option maxHeartbeats 4000000 in
theorem rLoad_other {bs p room : Nat} {l : List D.F} (n : Int) (s : Tx) (f : D.F) (w : World) (hm : MAt bs w p (room : Int) l) (hI : D.Inv room l) (hroom : room ≤ 6000) (hf : D.find (nameS n) l = some f) (hs : f.data = s) (q : Tx) (ps : List Tx) (h : (F.scan s).1 = q :: ps) (hq0 : 0 < q.length) (hq8 : q.length ≤ 8000) (hne : N.bt q 0 ≠ 115) :
    Calls Tryz.prog 11 #[dP p, .int .i64 n] w fun x w' => x = .returned (.tuple #[zSegV, .int .i64 2]) ∧ Below w.heap.size w w' := by
  obtain ⟨nm, HN⟩ : ∃ nm, Hid (nameS n = nm) := ⟨_, Lib.hid rfl⟩
  have HB := Lib.hid (TS.new w)
  have HM := Lib.hid (hm.below ((Below.refl _ w).alloc (Nat.le_refl _) zSeg))
  have HRD : Hid (D.read nm l = (s, 0)) := Lib.hid (by unfold D.read; rw [← HN.out, hf, ← hs])
  have hsl : s.length ≤ 1000000 := by rw [← hs]; have := data_le hI (D.find_some hf).1; omega
  clear hf hm hs
  go_enter Tryz.func11, Tryz.ntmps11
  go_wp2_with fail
  refine (rName_l n _).mono ?_
  rintro x w1 ⟨rfl, rfl⟩
  rw [HN.out]
  go_wp2_with fail
  refine (D.mRead_l p room l nm s 0 _ HM.out hI.sorted (by have := hI.many; omega) HRD).mono ?_
  rintro x w3 ⟨rfl, hq⟩
  have HB3 := Lib.hid (HB.out.call (below_ofq hq))
  clear hq HB HM
  go_wp2_with fail
  refine (refFScan_l s w3 hsl).mono ?_
  rintro x w4 ⟨v, rfl, hown, hb4⟩
  have HB4 := Lib.hid (HB3.out.call hb4)
  clear hb4 HB3
  obtain ⟨va, vc, rfl⟩ := own_sl hown
  have HO := Lib.hid hown
  clear hown
  rw [h] at HO
  rw [h]
  obtain ⟨g, cp, hva⟩ := ownsRow_succ HO.out
  cases hva
  have c0 : w4.cell? ⟨g, 0, none⟩ = some (.string (B q)) := by rw [HO.out.cellAt 0 (by simp)]; rfl
  have hql : 0 < (B q).size := by rw [size_B]; exact hq0
  have hqs : (q.length : Int) ≤ 9223372036854775807 := by omega
  have hps : (0 : Int) < ((q :: ps).length : Int) := by simp
  clear h
  have hnb : ((N.bt q 0 : Int) == 115) = false := beq_eq_false_iff_ne.2 (by omega)
  have hnz : ((N.bt q 0 : Int) != 115) = true := by simp; omega
  have hz0 : (((ps.length : Int) + 1) == 0) = false := beq_eq_false_iff_ne.2 (by omega)
  have hz1 : ¬ (ps.length : Int) + 1 = 0 := by omega
  have a0 := block_cell HB4.out.res 0
  have a1 := block_cell HB4.out.res 1
  have a2 := block_cell HB4.out.res 2
  simp at a0 a1 a2
  have l0 := block_loose HB4.out.res 0
  have l1 := block_loose HB4.out.res 1
  have l2 := block_loose HB4.out.res 2
  go_wp2
  have HK := Lib.hid (set_tri (a0 := .int .i64 0) (a1 := .slice none 0 0) (a2 := .bool false) HB4.out.res)
  have HB9 := Lib.hid (below_tri HB4.out.below (Nat.le_refl _) (.int .i64 0) (.slice none 0 0) (.bool false))
  generalize ((w4.setCell ⟨w.heap.size, 0, none⟩ (.int .i64 0)).setCell ⟨w.heap.size, 1, none⟩ (.slice none 0 0)).setCell ⟨w.heap.size, 2, none⟩ (.bool false) = w9 at *
  have k0 := block_cell HK.out 0
  have k1 := block_cell HK.out 1
  have k2 := block_cell HK.out 2
  simp only [List.getElem?_toArray, List.getElem?_cons_zero, List.getElem?_cons_succ] at k0 k1 k2
  exact bodyPost_ret (v := .tuple #[zSegV, .int .i64 2]) (by simp [results, Tryz.results11, go_sem, k0, k1, k2]) rfl ⟨rfl, HB9.out⟩

set_option maxRecDepth 100000 in
set_option maxHeartbeats 4000000 in
theorem rLoad_head {bs p room : Nat} {l : List D.F} (n : Int) (s : Tx) (f : D.F) (w : World) (hm : MAt bs w p (room : Int) l) (hI : D.Inv room l) (hroom : room ≤ 6000) (hf : D.find (nameS n) l = some f) (hs : f.data = s) (q : Tx) (ps : List Tx) (h : (F.scan s).1 = q :: ps) (hq0 : 0 < q.length) (hq8 : q.length ≤ 8000) (hqe : N.bt q 0 = 115) (H : ∀ m, N.takeL q.tail = Sum.inl (m, []) → m < 1 ∨ far < m) :
    Calls Tryz.prog 11 #[dP p, .int .i64 n] w fun x w' => x = .returned (.tuple #[zSegV, .int .i64 2]) ∧ Below w.heap.size w w' := by
  obtain ⟨nm, HN⟩ : ∃ nm, Hid (nameS n = nm) := ⟨_, Lib.hid rfl⟩
  have HB := Lib.hid (TS.new w)
  have HM := Lib.hid (hm.below ((Below.refl _ w).alloc (Nat.le_refl _) zSeg))
  have HRD : Hid (D.read nm l = (s, 0)) := Lib.hid (by unfold D.read; rw [← HN.out, hf, ← hs])
  have hsl : s.length ≤ 1000000 := by rw [← hs]; have := data_le hI (D.find_some hf).1; omega
  clear hf hm hs
  go_enter Tryz.func11, Tryz.ntmps11
  go_wp2_with fail
  refine (rName_l n _).mono ?_
  rintro x w1 ⟨rfl, rfl⟩
  rw [HN.out]
  go_wp2_with fail
  refine (D.mRead_l p room l nm s 0 _ HM.out hI.sorted (by have := hI.many; omega) HRD).mono ?_
  rintro x w3 ⟨rfl, hq⟩
  have HB3 := Lib.hid (HB.out.call (below_ofq hq))
  clear hq HB HM
  go_wp2_with fail
  refine (refFScan_l s w3 hsl).mono ?_
  rintro x w4 ⟨v, rfl, hown, hb4⟩
  have HB4 := Lib.hid (HB3.out.call hb4)
  clear hb4 HB3
  obtain ⟨va, vc, rfl⟩ := own_sl hown
  have HO := Lib.hid hown
  clear hown
  rw [h] at HO
  rw [h]
  obtain ⟨g, cp, hva⟩ := ownsRow_succ HO.out
  cases hva
  have c0 : w4.cell? ⟨g, 0, none⟩ = some (.string (B q)) := by rw [HO.out.cellAt 0 (by simp)]; rfl
  have hql : 0 < (B q).size := by rw [size_B]; exact hq0
  have hqs : (q.length : Int) ≤ 9223372036854775807 := by omega
  have hps : (0 : Int) < ((q :: ps).length : Int) := by simp
  clear h
  have hnb : ((N.bt q 0 : Int) == 115) = true := beq_iff_eq.2 (by omega)
  have hnz : ((N.bt q 0 : Int) != 115) = false := by simp; omega
  have hz0 : (((ps.length : Int) + 1) == 0) = false := beq_eq_false_iff_ne.2 (by omega)
  have hz1 : ¬ (ps.length : Int) + 1 = 0 := by omega
  have hqt : q.tail.length ≤ 100000000 := by rw [List.length_tail]; omega
  clear hqe
  go_wp2_with fail
  refine (refTake_l q.tail w4 hqt).mono ?_
  rintro x w5 ⟨rfl, hq⟩
  have HB5 := Lib.hid (HB4.out.call (below_ofq hq))
  clear hq HB4 HO c0
  rcases K.cases (N.takeL q.tail) with ⟨k, ht⟩ | ⟨m, r, ht⟩
  · have hpos := K.num_errs _ _ ht
    have hci : ((k : Int) == 0) = false := beq_eq_false_iff_ne.2 (by omega)
    have hcn : ¬ k = 0 := by omega
    rw [ht, show tkRes (Sum.inr k) = _ from tkRes_bad k]
    clear ht H
    have a0 := block_cell HB5.out.res 0
    have a1 := block_cell HB5.out.res 1
    have a2 := block_cell HB5.out.res 2
    simp at a0 a1 a2
    have l0 := block_loose HB5.out.res 0
    have l1 := block_loose HB5.out.res 1
    have l2 := block_loose HB5.out.res 2
    go_wp2
    have HK := Lib.hid (set_tri (a0 := .int .i64 0) (a1 := .slice none 0 0) (a2 := .bool false) HB5.out.res)
    have HB9 := Lib.hid (below_tri HB5.out.below (Nat.le_refl _) (.int .i64 0) (.slice none 0 0) (.bool false))
    generalize ((w5.setCell ⟨w.heap.size, 0, none⟩ (.int .i64 0)).setCell ⟨w.heap.size, 1, none⟩ (.slice none 0 0)).setCell ⟨w.heap.size, 2, none⟩ (.bool false) = w9 at *
    have k0 := block_cell HK.out 0
    have k1 := block_cell HK.out 1
    have k2 := block_cell HK.out 2
    simp only [List.getElem?_toArray, List.getElem?_cons_zero, List.getElem?_cons_succ] at k0 k1 k2
    exact bodyPost_ret (v := .tuple #[zSegV, .int .i64 2]) (by simp [results, Tryz.results11, go_sem, k0, k1, k2]) rfl ⟨rfl, HB9.out⟩
  · rw [ht, show tkRes (Sum.inl (m, r)) = _ from tkRes_ok m r]
    cases r with
    | cons ch r =>
      have hre : (ch :: r : Tx).isEmpty = false := rfl
      have hrn : ¬ (ch :: r : Tx) = [] := by simp
      generalize (ch :: r : Tx) = rr at *
      clear ht H
      have a0 := block_cell HB5.out.res 0
      have a1 := block_cell HB5.out.res 1
      have a2 := block_cell HB5.out.res 2
      simp at a0 a1 a2
      have l0 := block_loose HB5.out.res 0
      have l1 := block_loose HB5.out.res 1
      have l2 := block_loose HB5.out.res 2
      go_wp2
      have HK := Lib.hid (set_tri (a0 := .int .i64 0) (a1 := .slice none 0 0) (a2 := .bool false) HB5.out.res)
      have HB9 := Lib.hid (below_tri HB5.out.below (Nat.le_refl _) (.int .i64 0) (.slice none 0 0) (.bool false))
      generalize ((w5.setCell ⟨w.heap.size, 0, none⟩ (.int .i64 0)).setCell ⟨w.heap.size, 1, none⟩ (.slice none 0 0)).setCell ⟨w.heap.size, 2, none⟩ (.bool false) = w9 at *
      have k0 := block_cell HK.out 0
      have k1 := block_cell HK.out 1
      have k2 := block_cell HK.out 2
      simp only [List.getElem?_toArray, List.getElem?_cons_zero, List.getElem?_cons_succ] at k0 k1 k2
      exact bodyPost_ret (v := .tuple #[zSegV, .int .i64 2]) (by simp [results, Tryz.results11, go_sem, k0, k1, k2]) rfl ⟨rfl, HB9.out⟩
    | nil =>
      have hre : ([] : Tx).isEmpty = true := rfl
      rcases H m ht with hm1 | hm1
      · have hm2 : (m : Int) < 1 := by omega
        clear ht H
        have a0 := block_cell HB5.out.res 0
        have a1 := block_cell HB5.out.res 1
        have a2 := block_cell HB5.out.res 2
        simp at a0 a1 a2
        have l0 := block_loose HB5.out.res 0
        have l1 := block_loose HB5.out.res 1
        have l2 := block_loose HB5.out.res 2
        go_wp2
        have HK := Lib.hid (set_tri (a0 := .int .i64 0) (a1 := .slice none 0 0) (a2 := .bool false) HB5.out.res)
        have HB9 := Lib.hid (below_tri HB5.out.below (Nat.le_refl _) (.int .i64 0) (.slice none 0 0) (.bool false))
        generalize ((w5.setCell ⟨w.heap.size, 0, none⟩ (.int .i64 0)).setCell ⟨w.heap.size, 1, none⟩ (.slice none 0 0)).setCell ⟨w.heap.size, 2, none⟩ (.bool false) = w9 at *
        have k0 := block_cell HK.out 0
        have k1 := block_cell HK.out 1
        have k2 := block_cell HK.out 2
        simp only [List.getElem?_toArray, List.getElem?_cons_zero, List.getElem?_cons_succ] at k0 k1 k2
        exact bodyPost_ret (v := .tuple #[zSegV, .int .i64 2]) (by simp [results, Tryz.results11, go_sem, k0, k1, k2]) rfl ⟨rfl, HB9.out⟩
      · unfold far at hm1
        have hm2 : (274877906944 : Int) < m := by omega
        have hm3 : ¬ (m : Int) < 1 := by omega
        clear ht H
        have a0 := block_cell HB5.out.res 0
        have a1 := block_cell HB5.out.res 1
        have a2 := block_cell HB5.out.res 2
        simp at a0 a1 a2
        have l0 := block_loose HB5.out.res 0
        have l1 := block_loose HB5.out.res 1
        have l2 := block_loose HB5.out.res 2
        go_wp2
        have HK := Lib.hid (set_tri (a0 := .int .i64 0) (a1 := .slice none 0 0) (a2 := .bool false) HB5.out.res)
        have HB9 := Lib.hid (below_tri HB5.out.below (Nat.le_refl _) (.int .i64 0) (.slice none 0 0) (.bool false))
        generalize ((w5.setCell ⟨w.heap.size, 0, none⟩ (.int .i64 0)).setCell ⟨w.heap.size, 1, none⟩ (.slice none 0 0)).setCell ⟨w.heap.size, 2, none⟩ (.bool false) = w9 at *
        have k0 := block_cell HK.out 0
        have k1 := block_cell HK.out 1
        have k2 := block_cell HK.out 2
        simp only [List.getElem?_toArray, List.getElem?_cons_zero, List.getElem?_cons_succ] at k0 k1 k2
        exact bodyPost_ret (v := .tuple #[zSegV, .int .i64 2]) (by simp [results, Tryz.results11, go_sem, k0, k1, k2]) rfl ⟨rfl, HB9.out⟩

theorem bt_head {q : Tx} (hq0 : 0 < q.length) (h : N.bt q 0 = 115) : q.head? = some 115 := by
  cases q with
  | nil => cases hq0
  | cons c t =>
    have h2 : c.toNat = 115 := h
    simp only [List.head?_cons, Option.some.injEq]
    exact UInt8.toNat_inj.1 h2
/-- Bytes that are no segment's: ErrForm. -/
theorem rLoad_form {bs p room : Nat} {l : List D.F} (n : Int) (f : D.F) (w : World) (hm : MAt bs w p (room : Int) l) (hI : D.Inv room l) (hroom : room ≤ 6000) (hf : D.find (nameS n) l = some f) (H : loadL f.data = none) :
    Calls Tryz.prog 11 #[dP p, .int .i64 n] w fun x w' => x = .returned (.tuple #[zSegV, .int .i64 2]) ∧ Below w.heap.size w w' := by
  unfold loadL at H
  cases h : (F.scan f.data).1 with
  | nil => exact rLoad_empty n f.data f w hm hI hroom hf rfl h
  | cons q ps =>
    rw [h] at H
    dsimp only at H
    have hg := scan_good _ f.data (Nat.le_refl _) q (by rw [h]; exact List.mem_cons_self)
    by_cases hq : N.bt q 0 = 115
    · refine rLoad_head n f.data f w hm hI hroom hf rfl q ps h hg.1 hg.2 hq fun m hm => ?_
      have hh : headOf q = none := by
        cases hh : headOf q with
        | none => rfl
        | some k => rw [hh] at H; cases H
      unfold headOf at hh
      rw [if_pos (bt_head hg.1 hq), hm] at hh
      dsimp only at hh
      by_cases h1 : m < 1
      · exact .inl h1
      · refine .inr (Nat.lt_of_not_le fun h2 => ?_)
        rw [if_pos ⟨rfl, by omega, h2⟩] at hh
        cases hh
    · exact rLoad_other n f.data f w hm hI hroom hf rfl q ps h hg.1 hg.2 hq
end Go.Proofs.YtmfhipjceeijmaaGreatDoor.G

/-
  The document's answer for segments: Load of a segment.
-/
namespace Go.Proofs.YtmfhipjceeijmaaGreatDoor.G
open Go.RowKit
open D (dP MAt Kp)
attribute [local go_sem] ext_Bd ext_Bl ext_Bt toList_B add_B size_B get_Bt

theorem bt_of_head {q : Tx} {c : UInt8} (h : q.head? = some c) : N.bt q 0 = c.toNat := by
  cases q with
  | nil => cases h
  | cons d t => cases h; rfl
theorem scan_many : ∀ (k : Nat) (s : Tx), s.length ≤ k → 8 * (F.scan s).1.length ≤ s.length
  | 0, s, h => by
    have : s = [] := List.eq_nil_of_length_eq_zero (by omega)
    subst this
    rw [F.scan_bad (F.take_few (by simp))]
    simp
  | k + 1, s, h => by
    rcases F.take_cases s with ⟨e, he, _⟩ | ⟨p, r, he⟩
    · rw [F.scan_bad he]; simp
    · have hi := F.take_inv he
      have hl : s.length = p.length + 8 + r.length := by rw [hi.1, List.length_append, F.frame_len]
      have := scan_many k r (by omega)
      rw [F.scan_ok he]
      simp only [List.length_cons]
      omega
/-- Entries do not lie in a segment's block. -/
theorem readsR_three {w w' : World} {g : Nat} {x : Int} {ya : Option Addr} {yn yc : Nat} {z : Bool} {ty : TypeId} {v : Value} {xs : List EV} (h : ReadsR w v xs) (hg : w.heap[g]? = some (.cells #[.int .i64 x, .slice ya yn yc, .bool z] ty (0, 0)))
    (hk : ∀ k, k ≠ g → w'.heap[k]? = w.heap[k]?) : ReadsR w' v xs := by
  have key : ∀ b j (st : ByteArray), w.cell? ⟨b, j, none⟩ = some (.string st) → b ≠ g := fun b j st hc e => by
    subst e
    have e0 := (block_cell hg j).symm.trans hc
    rcases j with _ | _ | _ | j
    all_goals (simp at e0; done)
  have hcell : ∀ b j, b ≠ g → w'.cell? ⟨b, j, none⟩ = w.cell? ⟨b, j, none⟩ := fun b j hb => by simp [World.cell?, hk b hb]
  obtain ⟨a, cap, hv, hc, hn, hx⟩ := h
  refine ⟨a, cap, hv, hc, hn, fun i hi => ?_⟩
  obtain ⟨hre, hp, b, off, ha, h0, h1, h2, h3, h4, h5, h6⟩ := hx i hi
  refine ⟨?_, hp, b, off, ha, ?_⟩
  · obtain ⟨a2, cap2, hv2, hc2, hn2, hx2⟩ := hre
    refine ⟨a2, cap2, hv2, hc2, hn2, fun k hk2 => ?_⟩
    obtain ⟨b2, o2, ha2, e0, e1⟩ := hx2 k hk2
    exact ⟨b2, o2, ha2, by rw [hcell b2 _ (key _ _ _ e0)]; exact e0, by rw [hcell b2 _ (key _ _ _ e0)]; exact e1⟩
  · have hb := key _ _ _ h2
    exact ⟨by rw [hcell b _ hb]; exact h0, by rw [hcell b _ hb]; exact h1, by rw [hcell b _ hb]; exact h2, by rw [hcell b _ hb]; exact h3, by rw [hcell b _ hb]; exact h4, by rw [hcell b _ hb]; exact h5, by rw [hcell b _ hb]; exact h6⟩
theorem step_ents {w : World} {ops : Array Oper} {o : Oper} {a : Act} {K : Act → World → Prop} {Q : Exit → Act → World → Prop} {E : Prop} (hgd : o.guard = none) (base : Nat) (v : Value) (n : Nat) (xs : List Value) (hown : w.ownsRow base 53 7 v n xs) (aa : Option Addr) (m c : Nat) (es : List EV) (hr : ReadsR w (.slice aa m c) es) (hl : es.length = m) (h63 : n + m ≤ 1000) (hbase : base ≤ w.heap.size) (s x : Operand)
    (ho : o.op = .call { callee := .builtin .append, args := #[s, x], argTypes := #[33, 33] }) (hs : a.eval s = v) (hx : a.eval x = .slice aa m c)
    (h : ∀ v' w', w'.ownsRow base 53 7 v' (n + m) (xs ++ enCells es) → w.grownBy w' v.ownBlock → K (a.put o.dst v') w') : if Region.wanted o (yielded ops a.tmps) = true then Oper.wp Tryz.prog o a w K Q else E := by
  rw [if_pos (by simp [Region.wanted, hgd])]
  exact run_entries base v n xs hown aa m c es hr hl h63 hbase s x ho hs hx h
theorem reads_one16 {w : World} {g : Nat} {pos ep ex se sq : Int} {st : Tx} {evs : List E.Ev} {u : Value} {ty : TypeId} (hg : w.heap[g]? = some (.cells #[.int .i64 pos, .int .i64 ep, .string (B st), .int .i64 ex, .int .i64 se, .int .i64 sq, u] ty (0, 0))) (hre : ReadsE w u evs) (hp : i64B pos) :
    ReadsR w (.slice (some ⟨g, 0, none⟩) 1 1) [(⟨pos, ep, ⟨st, ex, se, sq, evs⟩⟩, u)] := by
  refine ⟨some ⟨g, 0, none⟩, 1, rfl, Nat.le_refl _, (fun h => by cases h), fun i hi => ?_⟩
  have : i = 0 := by simp at hi; omega
  subst this
  exact ⟨hre, hp, g, 0, rfl, block_cell hg 0, block_cell hg 1, block_cell hg 2, block_cell hg 3, block_cell hg 4, block_cell hg 5, block_cell hg 6⟩
theorem joined_one {W0 w' : World} {base : Nat} {va v u : Value} {xs : List EV} {e : R.En} (ha : ReadsR W0 va xs) (hre : ReadsE W0 u e.b.events) (hp : i64B e.pos) (hb : Below W0.heap.size W0 w')
    (hown : w'.ownsRow base 53 7 v (xs.length + 1) (enCells xs ++ enCells [(e, u)])) : ReadsR w' v (xs ++ [(e, u)]) := by
  refine readsR_own (base := base) ?_ fun p hp2 => ?_
  · rw [← enCells_append, show xs.length + 1 = (xs ++ [(e, u)]).length by rw [List.length_append]; simp] at hown
    exact hown
  · rcases List.mem_append.1 hp2 with h | h
    · obtain ⟨_, _, _, _, _, hx⟩ := readsR_below ha hb
      obtain ⟨j, hj, rfl⟩ := List.mem_iff_getElem.1 h
      exact ⟨(hx j hj).1, (hx j hj).2.1⟩
    · rw [List.mem_singleton] at h
      subst h
      exact ⟨readsE_below hre hb, hp⟩
theorem cell_al {w : World} {p : Addr} {v : Value} (h : w.cell? p = some v) (o : Obj) : (w.alloc o).cell? p = some v := by
  rw [((Below.refl _ w).alloc (Nat.le_refl _) o).cell (World.block_lt_of_cell? w p h)]; exact h
/-- Where the entries have come to. -/
structure LdAt (w w3 : World) (gb f : Nat) (va : Option Addr) (vc : Nat) (q : Tx) (ps : List Tx) (j : Nat) (wr : World) (v : Value) (xs : List EV) : Prop where
  ts : TS w wr
  own : wr.ownsRow w3.heap.size 9 1 (.slice va (ps.length + 1) vc) (ps.length + 1) (strCells (q :: ps))
  out : wr.heap[gb]? = some (.cells #[.int .i64 (f : Int), v, .bool false] 42)
  row : ReadsR wr v xs
  good : R.follows (ensOf xs) ((f : Int) - 1) 0 = true
  rest : goOn ps ((f : Int) - 1) 0 = ensOf xs ++ goOn (ps.drop j) (R.lastP (ensOf xs) ((f : Int) - 1)) (R.lastQ (ensOf xs) 0)
  len : xs.length ≤ j
theorem en_cases {s : Tx} {e : R.En} {r : Tx} {c : Nat} (h : enRes (R.takeEn s) = (e, r, c)) : (c = 0 ∧ R.takeEn s = Sum.inl (e, r)) ∨ (c ≠ 0 ∧ e = ⟨0, 0, ⟨[], 0, 0, 0, []⟩⟩ ∧ r = []) := by
  cases ht : R.takeEn s with
  | inl p => obtain ⟨a, b⟩ := p; rw [enRes_ok ht] at h; cases h; exact .inl ⟨rfl, rfl⟩
  | inr k => rw [enRes_bad ht] at h; cases h; exact .inr ⟨Nat.pos_iff_ne_zero.1 (R.en_errs s _ ht), rfl, rfl⟩
theorem en_tiny {s : Tx} {e : R.En} {r : Tx} {c : Nat} (h : enRes (R.takeEn s) = (e, r, c)) : E.Tiny e.b ∧ i64B e.pos := by
  rcases en_cases h with ⟨_, h⟩ | ⟨_, rfl, _⟩
  · have hr := (R.take_inv h).2
    obtain ⟨h1, h2, _⟩ := R.right_iff.1 hr
    refine ⟨en_right_tiny hr, ?_⟩
    have hl : R.large = 274877906944 := rfl
    unfold i64B
    omega
  · exact ⟨⟨Nat.zero_le _, fun _ e he => by simp at he⟩, by unfold i64B; dsimp only; omega⟩
theorem ent_take {q : Tx} {e : R.En} (h : entOf q = some e) : enRes (R.takeEn q.tail) = (e, [], 0) := by
  obtain ⟨rfl, hr⟩ := entOf_inv h
  have h3 := R.take_put hr []
  rw [List.append_nil] at h3
  exact enRes_ok h3
theorem take_ent {q : Tx} {e : R.En} (h0 : 0 < q.length) (h1 : N.bt q 0 = 101) (h : enRes (R.takeEn q.tail) = (e, [], 0)) : entOf q = some e := by
  rcases en_cases h with ⟨_, h⟩ | ⟨h2, _⟩
  · unfold entOf
    have hh : q.head? = some 101 := by
      cases q with
      | nil => simp at h0
      | cons d t =>
        have h1 : d.toNat = 101 := h1
        have : d = 101 := UInt8.toNat_inj.1 (by rw [h1]; rfl)
        rw [this]; rfl
    rw [if_pos hh, h]
    rfl
  · exact absurd rfl h2
theorem ens_snoc (xs : List EV) (e : R.En) (u : Value) : ensOf (xs ++ [(e, u)]) = ensOf xs ++ [e] := List.map_append
theorem ld_step {xs : List EV} {e : R.En} {u : Value} {p0 : Int} {ps : List Tx} {j : Nat} {qe : Tx} (hg : goOn ps p0 0 = ensOf xs ++ goOn (ps.drop j) (R.lastP (ensOf xs) p0) (R.lastQ (ensOf xs) 0))
    (hd : ps.drop j = qe :: ps.drop (j + 1)) (he : entOf qe = some e) (hf : R.follows (ensOf (xs ++ [(e, u)])) p0 0 = true) :
    goOn ps p0 0 = ensOf (xs ++ [(e, u)]) ++ goOn (ps.drop (j + 1)) (R.lastP (ensOf (xs ++ [(e, u)])) p0) (R.lastQ (ensOf (xs ++ [(e, u)])) 0) := by
  rw [ens_snoc] at hf ⊢
  obtain ⟨_, h2⟩ := (R.follows_append _ _ _ _).1 hf
  obtain ⟨h3, h4, h5, _⟩ := R.follows_cons.1 h2
  have h6 : R.lastP (ensOf xs ++ [e]) p0 = e.pos := by unfold R.lastP; simp
  have h7 : R.lastQ (ensOf xs ++ [e]) 0 = e.epoch := by unfold R.lastQ; simp
  rw [hg, hd, h6, h7, goOn, he]
  dsimp only
  rw [if_pos ⟨h4, h5⟩, List.append_assoc, List.singleton_append]
theorem ld_stop {xs : List EV} {p0 : Int} {ps : List Tx} {j : Nat} {qe : Tx} (hg : goOn ps p0 0 = ensOf xs ++ goOn (ps.drop j) (R.lastP (ensOf xs) p0) (R.lastQ (ensOf xs) 0))
    (hd : ps.drop j = qe :: ps.drop (j + 1)) (hgood : R.follows (ensOf xs) p0 0 = true) (H : ∀ e, entOf qe = some e → R.follows (ensOf xs ++ [e]) p0 0 = false) : ensOf xs = goOn ps p0 0 := by
  rw [hg, hd, goOn]
  cases he : entOf qe with
  | none => simp
  | some e =>
    have h := H e he
    dsimp only
    rw [if_neg, List.append_nil]
    rintro ⟨h1, h2⟩
    rw [(R.follows_append _ _ _ _).2 ⟨hgood, R.follows_cons.2 ⟨(entOf_inv he).2, h1, h2, rfl⟩⟩] at h
    cases h
theorem own_zero9 {w w1 : World} (h : w1.heap = (w.alloc (.cells #[] 53)).heap) : w1.ownsRow w.heap.size 53 7 (.slice (some ⟨w.heap.size, 0, none⟩) 0 0) 0 [] := by
  refine ⟨rfl, .inr ⟨w.heap.size, 0, #[], rfl, Nat.le_refl _, ?_, Nat.le_refl _, by unfold maxLen; omega, rfl, rfl⟩⟩
  rw [h]; exact World.alloc_heap_new w _
theorem grown_fresh {w a b : World} {v : Value} (h : Below w.heap.size w a) (hg : a.grownBy b v.ownBlock) (hv : ∀ k, v.ownBlock = some k → w.heap.size ≤ k) : Below w.heap.size w b := h.grown hg h.size hv
section
variable {P : Program} {ops : Array Oper} {Q : Exit → Act → World → Prop} {md : Region.Mode} {S : World → Prop} {fuel : Nat} {listed : Array Bool} {a : Act} {w : World}
/-- One of two operations may come up. -/
theorem take_two {i j : Nat} {oi oj : Oper} {ri rj : List Oper} (hr : Region.ready md ops listed = [i, j]) (hl : ops.toList.drop i = oi :: ri) (hl2 : ops.toList.drop j = oj :: rj) (hw : Region.wanted oi (yielded ops a.tmps) = true) (hw2 : Region.wanted oj (yielded ops a.tmps) = true)
    (h : ∀ K' : Act → World → Prop, Shut (∀ a w, S w → (S w → wpAnyH P md ops Q S fuel (listed.setIfInBounds i true) a w) → K' a w) → Oper.wp P oi a w K' Q)
    (h2 : ∀ K' : Act → World → Prop, Shut (∀ a w, S w → (S w → wpAnyH P md ops Q S fuel (listed.setIfInBounds j true) a w) → K' a w) → Oper.wp P oj a w K' Q) : wpAnyH P md ops Q S (fuel + 1) listed a w :=
  wpAnyH_ready hr (by simp) (AllReadyH.cons (op_at hl) (fun K' hK => by rw [if_pos hw]; exact h K' hK) (AllReadyH.cons (op_at hl2) (fun K' hK => by rw [if_pos hw2]; exact h2 K' hK) AllReadyH.nil))
end
theorem LdAt.below {w w3 : World} {gb f : Nat} {va : Option Addr} {vc : Nat} {q : Tx} {ps : List Tx} {j : Nat} {wr w' : World} {v : Value} {xs : List EV} (h : LdAt w w3 gb f va vc q ps j wr v xs) (hb : Below wr.heap.size wr w') : LdAt w w3 gb f va vc q ps j w' v xs :=
  ⟨h.ts.call hb, own_below h.own hb, block_below h.out hb, readsR_below h.row hb, h.good, h.rest, h.len⟩

set_option maxRecDepth 100000 in
set_option maxHeartbeats 4000000 in
theorem rLoad_ok {bs p room : Nat} {l : List D.F} (n : Int) (s : Tx) (f0 : D.F) (f : Nat) (es : List R.En) (t : Bool) (w : World) (hm : MAt bs w p (room : Int) l) (hI : D.Inv room l) (hroom : room ≤ 6000) (hf : D.find (nameS n) l = some f0) (hs : f0.data = s)
    (q : Tx) (ps : List Tx) (h : (F.scan s).1 = q :: ps) (hq0 : 0 < q.length) (hq8 : q.length ≤ 8000) (hqe : N.bt q 0 = 115) (ht : N.takeL q.tail = Sum.inl (f, [])) (hf1 : 1 ≤ f) (hf2 : f ≤ far)
    (HE : Hid (goOn ps ((f : Int) - 1) 0 = es)) (HT : Hid (decide (segB f es ≠ s) = t)) (hgd : ∀ q ∈ ps, F.good q) :
    Calls Tryz.prog 11 #[dP p, .int .i64 n] w fun x w' => (∃ v xs, x = .returned (.tuple #[.agg #[.int .i64 (f : Int), v, .bool t], .int .i64 0]) ∧ ensOf xs = es ∧ ReadsR w' v xs) ∧ Below w.heap.size w w' := by
  obtain ⟨nm, HN⟩ : ∃ nm, Hid (nameS n = nm) := ⟨_, Lib.hid rfl⟩
  have HB := Lib.hid (TS.new w)
  have HM := Lib.hid (hm.below ((Below.refl _ w).alloc (Nat.le_refl _) zSeg))
  have HRD : Hid (D.read nm l = (s, 0)) := Lib.hid (by unfold D.read; rw [← HN.out, hf, ← hs])
  have hsl : s.length ≤ 1000000 := by rw [← hs]; have := data_le hI (D.find_some hf).1; omega
  have hpl : 8 * (ps.length + 1) ≤ 6000 := by have h1 := scan_many _ s (Nat.le_refl _); rw [h] at h1; have h2 := data_le hI (D.find_some hf).1; rw [hs] at h2; simp only [List.length_cons] at h1; omega
  clear hf hm hs
  go_enter Tryz.func11, Tryz.ntmps11
  go_wp2_with fail
  refine (rName_l n _).mono ?_
  rintro x w1 ⟨rfl, rfl⟩
  rw [HN.out]
  go_wp2_with fail
  refine (D.mRead_l p room l nm s 0 _ HM.out hI.sorted (by have := hI.many; omega) HRD).mono ?_
  rintro x w3 ⟨rfl, hq⟩
  have HB3 := Lib.hid (HB.out.call (below_ofq hq))
  clear hq HB HM
  go_wp2_with fail
  refine (refFScan_l s w3 hsl).mono ?_
  rintro x w4 ⟨v, rfl, hown, hb4⟩
  have HB4 := Lib.hid (HB3.out.call hb4)
  clear hb4 HB3
  obtain ⟨va, vc, rfl⟩ := own_sl hown
  have HO := Lib.hid hown
  clear hown
  rw [h] at HO
  rw [h]
  obtain ⟨g, cp, hva⟩ := ownsRow_succ HO.out
  cases hva
  have c0 : w4.cell? ⟨g, 0, none⟩ = some (.string (B q)) := by rw [HO.out.cellAt 0 (by simp)]; rfl
  have hql : 0 < (B q).size := by rw [size_B]; exact hq0
  have hqs : (q.length : Int) ≤ 9223372036854775807 := by omega
  have hps : (0 : Int) < ((q :: ps).length : Int) := by simp
  clear h
  have hnb : ((N.bt q 0 : Int) == 115) = true := beq_iff_eq.2 (by omega)
  have hnz : ((N.bt q 0 : Int) != 115) = false := by simp; omega
  have hz0 : (((ps.length : Int) + 1) == 0) = false := beq_eq_false_iff_ne.2 (by omega)
  have hz1 : ¬ (ps.length : Int) + 1 = 0 := by omega
  have hqt : q.tail.length ≤ 100000000 := by rw [List.length_tail]; omega
  have HGD := Lib.hid hgd
  clear hqe hgd
  go_wp2_with fail
  refine (refTake_l q.tail w4 hqt).mono ?_
  rintro x w5 ⟨rfl, hq⟩
  have hb5 := below_ofq hq
  have HB5 := Lib.hid (HB4.out.call hb5)
  have HO5 := Lib.hid (own_below HO.out hb5)
  clear hq HB4 HO c0 hb5
  rw [ht, show tkRes (Sum.inl (f, [])) = _ from tkRes_ok f []]
  have hre : ([] : Tx).isEmpty = true := rfl
  have hm2 : ¬ (f : Int) < 1 := by omega
  have hm3 : ¬ (274877906944 : Int) < f := by unfold far at hf2; omega
  clear ht
  have hal : Below w5.heap.size w5 (w5.alloc (.cells #[.int .i64 (f : Int), .slice none 0 0, .bool false] 42)) := (Below.refl _ w5).alloc (Nat.le_refl _) _
  have HST : Hid (LdAt w w3 w5.heap.size f (some ⟨g, 0, none⟩) vc q ps 0 (w5.alloc (.cells #[.int .i64 (f : Int), .slice none 0 0, .bool false] 42)) (.slice none 0 0) []) := Lib.hid
    ⟨HB5.out.call hal, own_below HO5.out hal, World.alloc_heap_new w5 _, readsR_nil _, rfl, by simp [ensOf, R.lastP, R.lastQ], Nat.le_refl _⟩
  clear hal
  go_wp2
  have hgb : w.heap.size < w5.heap.size := (Array.getElem?_eq_some_iff.1 HB5.out.res).1
  generalize w5.alloc (.cells #[.int .i64 (f : Int), .slice none 0 0, .bool false] 42) = W at *
  have hgg : g < w5.heap.size := (HO5.out.lt g rfl).2
  generalize w5.heap.size = gb at *
  go_loopw [14] (fun i wr => ∃ (j : Nat) (v : Value) (xs : List EV), i = .int .i64 ((j : Int) + 1) ∧ j ≤ ps.length ∧ Hid (LdAt w w3 gb f (some ⟨g, 0, none⟩) vc q ps j wr v xs)) (fun i _ => ps.length + 1 - (intOf i).toNat)
  case atStart => exact ⟨0, _, _, rfl, Nat.zero_le _, HST⟩
  case round =>
    clear HST HB5 HO5
    obtain ⟨j, v, xs, rfl, hj, HL⟩ := hrel
    obtain ⟨ra, rc, rfl, -⟩ := id HL.out.row
    have o1 := block_cell HL.out.out 1
    simp at o1
    have hxj := HL.out.len
    by_cases hlt : j < ps.length
    · have hi1 : (j : Int) + 1 < (ps.length : Int) + 1 := by omega
      have hcell : wr.cell? ⟨g, j + 1, none⟩ = some (.string (B ps[j])) := by rw [HL.out.own.cellAt (j + 1) (by omega)]; simp [strCells, List.getElem?_eq_getElem hlt]
      have hg := HGD.out ps[j] (List.getElem_mem hlt)
      have HDR := Lib.hid (List.drop_eq_getElem_cons hlt)
      generalize ps[j] = qe at *
      have hq2' := hg.1
      have hq2 : 0 < (B qe).size := by rw [size_B]; exact hg.1
      have hqs2 : (qe.length : Int) ≤ 9223372036854775807 := by have := hg.2; omega
      have hqc := hg.1
      by_cases hb : N.bt qe 0 = 101
      · have hnb2 : ((N.bt qe 0 : Int) != 101) = false := by simp; omega
        have hq9 : qe.tail.length ≤ 1000000 := by have := hg.2; rw [List.length_tail]; omega
        obtain ⟨e, r, c, HQ⟩ : ∃ e r c, Hid (enRes (R.takeEn qe.tail) = (e, r, c)) := ⟨_, _, _, Lib.hid rfl⟩
        go_wp2_with fail
        refine (refTake6_at qe.tail e r c wr hq9 HQ).mono ?_
        rintro x w6 ⟨u, rfl, hre6, hb6⟩
        obtain ⟨ua, uc, rfl, -⟩ := id hre6
        obtain ⟨pos, ep, ⟨st, ex, se, sq, evs⟩⟩ := e
        dsimp only at hre6
        have o1 : w6.cell? ⟨gb, 1, none⟩ = some (.slice ra xs.length rc) := by rw [hb6.cell (World.block_lt_of_cell? wr _ o1)]; exact o1
        have HAL : Hid (Below w6.heap.size w6 (w6.alloc (.cells #[.int .i64 pos, .int .i64 ep, .string (B st), .int .i64 ex, .int .i64 se, .int .i64 sq, .slice ua evs.length uc] 53))) := Lib.hid ((Below.refl _ w6).alloc (Nat.le_refl _) _)
        have HNB : Hid ((w6.alloc (.cells #[.int .i64 pos, .int .i64 ep, .string (B st), .int .i64 ex, .int .i64 se, .int .i64 sq, .slice ua evs.length uc] 53)).heap[w6.heap.size]? = some (.cells #[.int .i64 pos, .int .i64 ep, .string (B st), .int .i64 ex, .int .i64 se, .int .i64 sq, .slice ua evs.length uc] 53)) := Lib.hid (World.alloc_heap_new w6 _)
        go_wp2
        generalize w6.alloc (.cells #[.int .i64 pos, .int .i64 ep, .string (B st), .int .i64 ex, .int .i64 se, .int .i64 sq, .slice ua evs.length uc] 53) = W0 at *
        have o1 : W0.cell? ⟨gb, 1, none⟩ = some (.slice ra xs.length rc) := by rw [HAL.out.cell (World.block_lt_of_cell? w6 _ o1)]; exact o1
        have HRE := Lib.hid (readsE_below hre6 HAL.out)
        have HLD := Lib.hid (hb6.trans (HAL.out.mono hb6.size))
        have hge : w6.heap.size < W0.heap.size := (Array.getElem?_eq_some_iff.1 HNB.out).1
        generalize w6.heap.size = ge at *
        have x0 := block_cell HNB.out 0
        have x1 := block_cell HNB.out 1
        have x2 := block_cell HNB.out 2
        have x3 := block_cell HNB.out 3
        have x4 := block_cell HNB.out 4
        have x5 := block_cell HNB.out 5
        have x6 := block_cell HNB.out 6
        simp at x0 x1 x2 x3 x4 x5 x6
        clear hb6 hre6
        have HRW := Lib.hid (readsR_below HL.out.row HLD.out)
        have HET := en_tiny HQ.out
        have HPB : Hid (i64B pos) := Lib.hid HET.2
        have HTY := Lib.hid HET.1
        clear HET
        have hxb : xs.length ≤ 900 := by omega
        go_upto_region 16 with (fail)
        go_cut [18] (fun x wx => ∃ a8 c8, x = .slice a8 (xs.length + 1) c8 ∧ Hid (ReadsR wx (.slice a8 (xs.length + 1) c8) (xs ++ [((⟨pos, ep, ⟨st, ex, se, sq, evs⟩⟩ : R.En), .slice ua evs.length uc)]) ∧ Below W0.heap.size W0 wx))
        case first =>
          have hdr : Below W0.heap.size W0 W0.drew := (Below.refl _ W0).drew
          have HSZ : Hid (W0.drew.heap.size = W0.heap.size) := Lib.hid rfl
          have hSK : ∀ w', Below W0.heap.size W0 w' → (w'.cell? ⟨gb, 1, none⟩ = some (.slice ra xs.length rc) ∧ w'.cell? ⟨ge, 0, none⟩ = some (.int .i64 pos) ∧ w'.cell? ⟨ge, 1, none⟩ = some (.int .i64 ep) ∧ w'.cell? ⟨ge, 2, none⟩ = some (.string (B st)) ∧ w'.cell? ⟨ge, 3, none⟩ = some (.int .i64 ex) ∧ w'.cell? ⟨ge, 4, none⟩ = some (.int .i64 se) ∧ w'.cell? ⟨ge, 5, none⟩ = some (.int .i64 sq) ∧ w'.cell? ⟨ge, 6, none⟩ = some (.slice ua evs.length uc)) := fun w' hb => ⟨below_keeps hb _ _ o1, below_keeps hb _ _ x0, below_keeps hb _ _ x1, below_keeps hb _ _ x2, below_keeps hb _ _ x3, below_keeps hb _ _ x4, below_keeps hb _ _ x5, below_keeps hb _ _ x6⟩
          have HSK := Lib.hid hSK
          clear hSK o1 x0 x1 x2 x3 x4 x5 x6
          refine wp_region_held_drew (S := fun w' => w'.cell? ⟨gb, 1, none⟩ = some (.slice ra xs.length rc) ∧ w'.cell? ⟨ge, 0, none⟩ = some (.int .i64 pos) ∧ w'.cell? ⟨ge, 1, none⟩ = some (.int .i64 ep) ∧ w'.cell? ⟨ge, 2, none⟩ = some (.string (B st)) ∧ w'.cell? ⟨ge, 3, none⟩ = some (.int .i64 ex) ∧ w'.cell? ⟨ge, 4, none⟩ = some (.int .i64 se) ∧ w'.cell? ⟨ge, 5, none⟩ = some (.int .i64 sq) ∧ w'.cell? ⟨ge, 6, none⟩ = some (.slice ua evs.length uc)) (by kernel_rfl) ?_ (fun hHeld => ?_)
          · exact HSK.out _ hdr
          generalize W0.drew = W1 at *
          refine take_wanted (i := 1) (v := ?_) rfl (by kernel_rfl) (by kernel_rfl) (by kernel_rfl) (fun _ _ _ h => h) (by rfl) ?_ (by assumption) ?_
          rotate_left
          · intro w hSw
            (try dsimp only at hSw)
            go_simp
            (try with_reducible rfl)
          simp only [Act.put, List.setIfInBounds_toArray, List.set_cons_zero, List.set_cons_succ]
          refine take_wanted (i := 2) (v := ?_) rfl (by kernel_rfl) (by kernel_rfl) (by kernel_rfl) (fun _ _ _ h => h) (by rfl) ?_ (by assumption) ?_
          rotate_left
          · intro w hSw
            (try dsimp only at hSw)
            go_simp
            (try with_reducible rfl)
          simp only [Act.put, List.setIfInBounds_toArray, List.set_cons_zero, List.set_cons_succ]
          refine take_wanted (i := 4) (v := ?_) rfl (by kernel_rfl) (by kernel_rfl) (by kernel_rfl) (fun _ _ _ h => h) (by rfl) ?_ (by assumption) ?_
          rotate_left
          · intro w hSw
            (try dsimp only at hSw)
            go_simp
            (try with_reducible rfl)
          simp only [Act.put, List.setIfInBounds_toArray, List.set_cons_zero, List.set_cons_succ]
          have hbV := hdr.alloc hdr.size (.cells #[] 53)
          have hbU := hdr.alloc hdr.size (.cells #[.int .i64 pos, .int .i64 ep, .string (B st), .int .i64 ex, .int .i64 se, .int .i64 sq, .slice ua evs.length uc] 53)
          refine take_two (i := 0) (j := 5) (by kernel_rfl) rfl rfl (by rfl) (by rfl) (fun K hK => ?_) (fun K hK => ?_)
          · go_simp
            refine hK.out _ _ ?_ (fun hHeld => ?_)
            · exact HSK.out _ hbV
            clear hK K
            have hoV : (W1.alloc (.cells #[] 53)).ownsRow W1.heap.size 53 7 (.slice (some ⟨W1.heap.size, 0, none⟩) 0 0) 0 [] := own_zero9 rfl
            have hbX := hbV.alloc hbV.size (.cells #[.int .i64 pos, .int .i64 ep, .string (B st), .int .i64 ex, .int .i64 se, .int .i64 sq, .slice ua evs.length uc] 53)
            refine take_two (i := 3) (j := 5) (by kernel_rfl) rfl rfl (by rfl) (by rfl) (fun K hK => ?_) (fun K hK => ?_)
            · refine run_entries (W1.heap.size) (.slice (some ⟨W1.heap.size, 0, none⟩) 0 0) 0 [] hoV ra xs.length rc xs (readsR_below HRW.out hbV) rfl (by omega) (by rw [World.size_alloc]; omega) (.tmp 94) (.tmp 96) (by rfl) (by rfl) (by rfl) ?_
              rintro v1 V2 hown1 hgr1
              have hb2 := grown_fresh hbV hgr1 (fun k hk => by have := (hoV.lt k hk).1; have := HSZ.out; omega)
              refine hK.out _ _ ?_ (fun hHeld => ?_)
              · exact HSK.out _ hb2
              clear hK K
              rw [Nat.zero_add, List.nil_append] at hown1
              obtain ⟨a9, c9, rfl⟩ := own_sl hown1
              have hb3 := hb2.alloc hb2.size (.cells #[.int .i64 pos, .int .i64 ep, .string (B st), .int .i64 ex, .int .i64 se, .int .i64 sq, .slice ua evs.length uc] 53)
              refine take_only (i := 5) (by kernel_rfl) rfl (by rfl) (fun K hK => ?_)
              go_simp
              refine hK.out _ _ ?_ (fun hHeld => ?_)
              · exact HSK.out _ hb3
              clear hK K
              refine take_only (i := 6) (by kernel_rfl) rfl (by rfl) (fun K hK => ?_)
              refine run_entries _ (.slice a9 xs.length c9) xs.length (enCells xs) (hown1.alloc _) (some ⟨V2.heap.size, 0, none⟩) 1 1 [((⟨pos, ep, ⟨st, ex, se, sq, evs⟩⟩ : R.En), .slice ua evs.length uc)] (reads_one16 (World.alloc_heap_new V2 _) (readsE_below HRE.out hb3) HPB.out) rfl (by omega) (by have := (hb3).size; have := HSZ.out; first | omega | (have h := hgr1.size; simp only [World.size_alloc] at h; omega)) (.tmp 97) (.tmp 99) (by rfl) (by rfl) (by rfl) ?_
              rintro v2 V9 hown2 hgr2
              have hbz := grown_fresh hb3 hgr2 (fun k hk => by have := (hown1.lt k hk).1; have := HSZ.out; omega)
              refine hK.out _ _ ?_ (fun hHeld => ?_)
              · exact HSK.out _ hbz
              clear hK K
              obtain ⟨a8, c8, rfl⟩ := own_sl hown2
              refine take_wanted (i := 7) (v := ?_) rfl (by kernel_rfl) (by kernel_rfl) (by kernel_rfl) (fun _ _ _ h => h) (by rfl) ?_ (by assumption) ?_
              rotate_left
              · intro w hSw
                (try dsimp only at hSw)
                go_simp
                (try with_reducible rfl)
              simp only [Act.put, List.setIfInBounds_toArray, List.set_cons_zero, List.set_cons_succ]
              refine wpAnyH_done (by kernel_rfl) ?_ _
              clear hHeld
              go_wp2
              go_meet
              exact ⟨_, _, rfl, Lib.hid ⟨joined_one HRW.out HRE.out HPB.out hbz hown2, hbz⟩⟩
            · go_simp
              refine hK.out _ _ ?_ (fun hHeld => ?_)
              · exact HSK.out _ hbX
              clear hK K
              have hF : ((W1.alloc (.cells #[] 53)).alloc (.cells #[.int .i64 pos, .int .i64 ep, .string (B st), .int .i64 ex, .int .i64 se, .int .i64 sq, .slice ua evs.length uc] 53)).heap[W1.heap.size + 1]? = some (.cells #[.int .i64 pos, .int .i64 ep, .string (B st), .int .i64 ex, .int .i64 se, .int .i64 sq, .slice ua evs.length uc] 53) := by
                have h := World.alloc_heap_new (W1.alloc (.cells #[] 53)) (.cells #[.int .i64 pos, .int .i64 ep, .string (B st), .int .i64 ex, .int .i64 se, .int .i64 sq, .slice ua evs.length uc] 53)
                rw [World.size_alloc] at h
                exact h
              have hoX := hoV.alloc (.cells #[.int .i64 pos, .int .i64 ep, .string (B st), .int .i64 ex, .int .i64 se, .int .i64 sq, .slice ua evs.length uc] 53)
              refine take_only (i := 3) (by kernel_rfl) rfl (by rfl) (fun K hK => ?_)
              refine run_entries (W1.heap.size) (.slice (some ⟨W1.heap.size, 0, none⟩) 0 0) 0 [] hoX ra xs.length rc xs (readsR_below HRW.out hbX) rfl (by omega) (by rw [World.size_alloc, World.size_alloc]; omega) (.tmp 94) (.tmp 96) (by rfl) (by rfl) (by rfl) ?_
              rintro v1 V2 hown1 hgr1
              have hb2 := grown_fresh hbX hgr1 (fun k hk => by have := (hoX.lt k hk).1; have := HSZ.out; omega)
              refine hK.out _ _ ?_ (fun hHeld => ?_)
              · exact HSK.out _ hb2
              clear hK K
              rw [Nat.zero_add, List.nil_append] at hown1
              obtain ⟨a9, c9, rfl⟩ := own_sl hown1
              have hF9 := block_kept (g := W1.heap.size) hF hgr1 (by omega)
              refine take_only (i := 6) (by kernel_rfl) rfl (by rfl) (fun K hK => ?_)
              refine run_entries _ (.slice a9 xs.length c9) xs.length (enCells xs) hown1 (some ⟨W1.heap.size + 1, 0, none⟩) 1 1 [((⟨pos, ep, ⟨st, ex, se, sq, evs⟩⟩ : R.En), .slice ua evs.length uc)] (reads_one16 hF9 (readsE_below HRE.out hb2) HPB.out) rfl (by omega) (by have := (hb2).size; have := HSZ.out; first | omega | (have h := hgr1.size; simp only [World.size_alloc] at h; omega)) (.tmp 97) (.tmp 99) (by rfl) (by rfl) (by rfl) ?_
              rintro v2 V9 hown2 hgr2
              have hbz := grown_fresh hb2 hgr2 (fun k hk => by have := (hown1.lt k hk).1; have := HSZ.out; omega)
              refine hK.out _ _ ?_ (fun hHeld => ?_)
              · exact HSK.out _ hbz
              clear hK K
              obtain ⟨a8, c8, rfl⟩ := own_sl hown2
              refine take_wanted (i := 7) (v := ?_) rfl (by kernel_rfl) (by kernel_rfl) (by kernel_rfl) (fun _ _ _ h => h) (by rfl) ?_ (by assumption) ?_
              rotate_left
              · intro w hSw
                (try dsimp only at hSw)
                go_simp
                (try with_reducible rfl)
              simp only [Act.put, List.setIfInBounds_toArray, List.set_cons_zero, List.set_cons_succ]
              refine wpAnyH_done (by kernel_rfl) ?_ _
              clear hHeld
              go_wp2
              go_meet
              exact ⟨_, _, rfl, Lib.hid ⟨joined_one HRW.out HRE.out HPB.out hbz hown2, hbz⟩⟩
          · go_simp
            refine hK.out _ _ ?_ (fun hHeld => ?_)
            · exact HSK.out _ hbU
            clear hK K
            have hbY := hbU.alloc hbU.size (.cells #[] 53)
            refine take_only (i := 0) (by kernel_rfl) rfl (by rfl) (fun K hK => ?_)
            go_simp
            refine hK.out _ _ ?_ (fun hHeld => ?_)
            · exact HSK.out _ hbY
            clear hK K
            have hoY : ((W1.alloc (.cells #[.int .i64 pos, .int .i64 ep, .string (B st), .int .i64 ex, .int .i64 se, .int .i64 sq, .slice ua evs.length uc] 53)).alloc (.cells #[] 53)).ownsRow (W1.heap.size + 1) 53 7 (.slice (some ⟨W1.heap.size + 1, 0, none⟩) 0 0) 0 [] := by
              have h := own_zero9 (w := W1.alloc (.cells #[.int .i64 pos, .int .i64 ep, .string (B st), .int .i64 ex, .int .i64 se, .int .i64 sq, .slice ua evs.length uc] 53)) (w1 := (W1.alloc (.cells #[.int .i64 pos, .int .i64 ep, .string (B st), .int .i64 ex, .int .i64 se, .int .i64 sq, .slice ua evs.length uc] 53)).alloc (.cells #[] 53)) rfl
              rw [World.size_alloc] at h
              exact h
            have hF : ((W1.alloc (.cells #[.int .i64 pos, .int .i64 ep, .string (B st), .int .i64 ex, .int .i64 se, .int .i64 sq, .slice ua evs.length uc] 53)).alloc (.cells #[] 53)).heap[W1.heap.size]? = some (.cells #[.int .i64 pos, .int .i64 ep, .string (B st), .int .i64 ex, .int .i64 se, .int .i64 sq, .slice ua evs.length uc] 53) := (Below.heap_alloc _ _ _ (by rw [World.size_alloc]; omega)).trans (World.alloc_heap_new W1 _)
            refine take_only (i := 3) (by kernel_rfl) rfl (by rfl) (fun K hK => ?_)
            refine run_entries (W1.heap.size + 1) (.slice (some ⟨W1.heap.size + 1, 0, none⟩) 0 0) 0 [] hoY ra xs.length rc xs (readsR_below HRW.out hbY) rfl (by omega) (by rw [World.size_alloc, World.size_alloc]; omega) (.tmp 94) (.tmp 96) (by rfl) (by rfl) (by rfl) ?_
            rintro v1 V2 hown1 hgr1
            have hb2 := grown_fresh hbY hgr1 (fun k hk => by have := (hoY.lt k hk).1; have := HSZ.out; omega)
            refine hK.out _ _ ?_ (fun hHeld => ?_)
            · exact HSK.out _ hb2
            clear hK K
            rw [Nat.zero_add, List.nil_append] at hown1
            obtain ⟨a9, c9, rfl⟩ := own_sl hown1
            have hF9 := block_kept (g := W1.heap.size + 1) hF hgr1 (by omega)
            refine take_only (i := 6) (by kernel_rfl) rfl (by rfl) (fun K hK => ?_)
            refine run_entries _ (.slice a9 xs.length c9) xs.length (enCells xs) hown1 (some ⟨W1.heap.size, 0, none⟩) 1 1 [((⟨pos, ep, ⟨st, ex, se, sq, evs⟩⟩ : R.En), .slice ua evs.length uc)] (reads_one16 hF9 (readsE_below HRE.out hb2) HPB.out) rfl (by omega) (by have := (hb2).size; have := HSZ.out; first | omega | (have h := hgr1.size; simp only [World.size_alloc] at h; omega)) (.tmp 97) (.tmp 99) (by rfl) (by rfl) (by rfl) ?_
            rintro v2 V9 hown2 hgr2
            have hbz := grown_fresh hb2 hgr2 (fun k hk => by have := (hown1.lt k hk).1; have := HSZ.out; omega)
            refine hK.out _ _ ?_ (fun hHeld => ?_)
            · exact HSK.out _ hbz
            clear hK K
            obtain ⟨a8, c8, rfl⟩ := own_sl hown2
            refine take_wanted (i := 7) (v := ?_) rfl (by kernel_rfl) (by kernel_rfl) (by kernel_rfl) (fun _ _ _ h => h) (by rfl) ?_ (by assumption) ?_
            rotate_left
            · intro w hSw
              (try dsimp only at hSw)
              go_simp
              (try with_reducible rfl)
            simp only [Act.put, List.setIfInBounds_toArray, List.set_cons_zero, List.set_cons_succ]
            refine wpAnyH_done (by kernel_rfl) ?_ _
            clear hHeld
            go_wp2
            go_meet
            exact ⟨_, _, rfl, Lib.hid ⟨joined_one HRW.out HRE.out HPB.out hbz hown2, hbz⟩⟩
        case rest =>
        clear o1 x0 x1 x2 x3 x4 x5 x6 HNB hge
        obtain ⟨a8, c8, rfl, HN⟩ := hcut
        have hp0 : i64B ((f : Int) - 1) := by unfold i64B; unfold far at hf2; omega
        have htn : ∀ p ∈ xs ++ [((⟨pos, ep, ⟨st, ex, se, sq, evs⟩⟩ : R.En), .slice ua evs.length uc)], E.Tiny p.1.b := fun p hp => by
          rcases List.mem_append.1 hp with h | h
          · exact en_right_tiny (R.follows_right HL.out.good p.1 (List.mem_map_of_mem h))
          · rw [List.mem_singleton] at h
            subst h
            exact HTY.out
        obtain ⟨fl, HFL⟩ : ∃ fl, Hid (R.follows (ensOf (xs ++ [((⟨pos, ep, ⟨st, ex, se, sq, evs⟩⟩ : R.En), .slice ua evs.length uc)])) ((f : Int) - 1) 0 = fl) := ⟨_, Lib.hid rfl⟩
        go_wp2_with fail
        refine (refFollows_l (xs ++ [((⟨pos, ep, ⟨st, ex, se, sq, evs⟩⟩ : R.En), .slice ua evs.length uc)]) _ ((f : Int) - 1) 0 _ HN.out.1 (by rw [List.length_append]; show xs.length + 1 ≤ 1000; omega) htn hp0).mono ?_
        rintro x w9 ⟨rfl, hb9⟩
        rw [HFL.out]
        have hbq := HLD.out.trans ((HN.out.2.trans (hb9.mono HN.out.2.size)).mono HLD.out.size)
        have HL9 := Lib.hid (HL.out.below hbq)
        have HROW9 := Lib.hid (readsR_below HN.out.1 hb9)
        clear hb9 hbq HL HN HLD htn hp0 HRE HRW HPB HTY
        have o1 := block_cell HL9.out.out 1
        have o2 := block_loose HL9.out.out 1
        simp at o1
        by_cases hgood : c = 0 ∧ r = [] ∧ fl = true
        · obtain ⟨rfl, rfl, rfl⟩ := hgood
          have hre : ([] : Tx).isEmpty = true := rfl
          have HEE := Lib.hid (take_ent hq2' hb HQ.out)
          have HNR := Lib.hid (ld_step HL9.out.rest HDR.out HEE.out HFL.out)
          clear HQ HEE
          go_wp2
          have hne : w.heap.size ≠ gb := by omega
          have hneg : g ≠ gb := by omega
          have HLN : Hid (LdAt w w3 gb f (some ⟨g, 0, none⟩) vc q ps (j + 1) (w9.setCell ⟨gb, 1, none⟩ (.slice a8 (xs.length + 1) c8)) (.slice a8 (xs.length + 1) c8) (xs ++ [((⟨pos, ep, ⟨st, ex, se, sq, evs⟩⟩ : R.En), .slice ua evs.length uc)])) := Lib.hid
            ⟨⟨(Below.heap_setCell _ _ _ _ hne).trans HL9.out.ts.res, HL9.out.ts.below.setCell (p := ⟨gb, 1, none⟩) (Nat.le_of_lt hgb) _⟩,
             HL9.out.own.kept (Lib.grownBy_setCell w9 gb 1 _) (.inr (by simpa [Value.ownBlock] using hneg)),
             set_block HL9.out.out 1 _, readsR_three HROW9.out HL9.out.out (fun k hk => Below.heap_setCell _ _ _ _ hk), HFL.out, HNR.out, by rw [List.length_append]; show xs.length + 1 ≤ j + 1; omega⟩
          go_roundw
          case rel => exact ⟨j + 1, _, _, by go_num, by omega, HLN⟩
          case measure => simp [intOf]; omega
        · have HXE : Hid (ensOf xs = es) := Lib.hid ((ld_stop HL9.out.rest HDR.out HL9.out.good fun e' he' => by
            have h1 := ent_take he'
            rw [HQ.out] at h1
            cases h1
            cases hfl : fl with
            | true => exact absurd ⟨rfl, rfl, hfl⟩ hgood
            | false => have h2 := HFL.out; rw [ens_snoc, hfl] at h2; exact h2).trans HE.out)
          have HCS : Hid (c ≠ 0 ∨ (c = 0 ∧ r ≠ []) ∨ (c = 0 ∧ r = [] ∧ fl = false)) := Lib.hid (by
            by_cases h1 : c = 0
            · by_cases h2 : r = []
              · cases hfl : fl with
                | true => exact absurd ⟨h1, h2, hfl⟩ hgood
                | false => exact .inr (.inr ⟨h1, h2, rfl⟩)
              · exact .inr (.inl ⟨h1, h2⟩)
            · exact .inl h1)
          clear hgood HQ HFL HROW9 hb
          rcases HCS.out with hc | ⟨rfl, hr⟩ | ⟨rfl, rfl, rfl⟩
          · have hcz : ((c : Int) == 0) = false := beq_eq_false_iff_ne.2 (by omega)
            have hcz1 : ¬ (c : Int) = 0 := by omega
            clear HCS hc
            have hxl : xs.length ≤ 900 := by omega
            obtain ⟨sB, HSB⟩ : ∃ sB, Hid (segB f (ensOf xs) = sB) := ⟨_, Lib.hid rfl⟩
            have hrt : ∀ p ∈ xs, R.right p.1 = true := fun p hp => R.follows_right HL9.out.good p.1 (List.mem_map_of_mem hp)
            go_wp2_with fail
            refine (rBytes_l f xs _ sB w9 hf2 hxl HL9.out.row hrt HSB).mono ?_
            rintro x w7 ⟨rfl, hb7⟩
            have HTS := Lib.hid (HL9.out.ts.call hb7)
            have HOUT := Lib.hid (block_below HL9.out.out hb7)
            have HROW := Lib.hid (readsR_below HL9.out.row hb7)
            have HTB : Hid (decide (sB ≠ s) = t) := Lib.hid (by rw [← HSB.out, HXE.out]; exact HT.out)
            clear o1 hb7 hrt
            have o0 := block_cell HOUT.out 0
            have o1 := block_cell HOUT.out 1
            have o2 := block_cell HOUT.out 2
            have m2 := block_loose HOUT.out 2
            simp at o0 o1 o2
            have a0 := block_cell HTS.out.res 0
            have a1 := block_cell HTS.out.res 1
            have a2 := block_cell HTS.out.res 2
            simp at a0 a1 a2
            have l0 := block_loose HTS.out.res 0
            have l1 := block_loose HTS.out.res 1
            have l2 := block_loose HTS.out.res 2
            go_wp2
            have hbs : (!(sB == s)) = t := by rw [← HTB.out]; by_cases hq : sB = s <;> simp [hq]
            rw [hbs]
            have hne : w.heap.size ≠ gb := by omega
            have hg1 : (w7.setCell ⟨gb, 2, none⟩ (.bool t)).heap[gb]? = some (.cells #[.int .i64 (f : Int), .slice ra xs.length rc, .bool t] 42 (0, 0)) := set_block HOUT.out 2 _
            have hr1 : (w7.setCell ⟨gb, 2, none⟩ (.bool t)).heap[w.heap.size]? = some zSeg := (Below.heap_setCell _ _ _ _ hne).trans HTS.out.res
            have hw1 : ReadsR (w7.setCell ⟨gb, 2, none⟩ (.bool t)) (.slice ra xs.length rc) xs := readsR_three HROW.out HOUT.out fun k hk => Below.heap_setCell _ _ _ _ hk
            have hb1 : Below w.heap.size w (w7.setCell ⟨gb, 2, none⟩ (.bool t)) := HTS.out.below.setCell (p := ⟨gb, 2, none⟩) (Nat.le_of_lt hgb) _
            clear o0 o1 o2 m2 a0 a1 a2 l0 l1 l2
            generalize w7.setCell ⟨gb, 2, none⟩ (.bool t) = w8 at *
            have HK := Lib.hid (set_tri (a0 := .int .i64 (f : Int)) (a1 := .slice ra xs.length rc) (a2 := .bool t) hr1)
            have HB9 := Lib.hid (below_tri hb1 (Nat.le_refl _) (.int .i64 (f : Int)) (.slice ra xs.length rc) (.bool t))
            have HR9 : Hid (ReadsR (((w8.setCell ⟨w.heap.size, 0, none⟩ (.int .i64 (f : Int))).setCell ⟨w.heap.size, 1, none⟩ (.slice ra xs.length rc)).setCell ⟨w.heap.size, 2, none⟩ (.bool t)) (.slice ra xs.length rc) xs) := Lib.hid (readsR_three hw1 hr1 fun k hk => by
              rw [Below.heap_setCell _ _ _ _ hk, Below.heap_setCell _ _ _ _ hk, Below.heap_setCell _ _ _ _ hk])
            generalize ((w8.setCell ⟨w.heap.size, 0, none⟩ (.int .i64 (f : Int))).setCell ⟨w.heap.size, 1, none⟩ (.slice ra xs.length rc)).setCell ⟨w.heap.size, 2, none⟩ (.bool t) = w9 at *
            have k0 := block_cell HK.out 0
            have k1 := block_cell HK.out 1
            have k2 := block_cell HK.out 2
            simp only [List.getElem?_toArray, List.getElem?_cons_zero, List.getElem?_cons_succ] at k0 k1 k2
            exact bodyPost_ret (v := .tuple #[.agg #[.int .i64 (f : Int), .slice ra xs.length rc, .bool t], .int .i64 0]) (by simp [results, Tryz.results11, go_sem, k0, k1, k2]) rfl ⟨⟨_, xs, rfl, HXE.out, HR9.out⟩, HB9.out⟩
          · have hre : r.isEmpty = false := by cases r with
              | nil => exact absurd rfl hr
              | cons d t => rfl
            clear HCS hr
            have hxl : xs.length ≤ 900 := by omega
            obtain ⟨sB, HSB⟩ : ∃ sB, Hid (segB f (ensOf xs) = sB) := ⟨_, Lib.hid rfl⟩
            have hrt : ∀ p ∈ xs, R.right p.1 = true := fun p hp => R.follows_right HL9.out.good p.1 (List.mem_map_of_mem hp)
            go_wp2_with fail
            refine (rBytes_l f xs _ sB w9 hf2 hxl HL9.out.row hrt HSB).mono ?_
            rintro x w7 ⟨rfl, hb7⟩
            have HTS := Lib.hid (HL9.out.ts.call hb7)
            have HOUT := Lib.hid (block_below HL9.out.out hb7)
            have HROW := Lib.hid (readsR_below HL9.out.row hb7)
            have HTB : Hid (decide (sB ≠ s) = t) := Lib.hid (by rw [← HSB.out, HXE.out]; exact HT.out)
            clear o1 hb7 hrt
            have o0 := block_cell HOUT.out 0
            have o1 := block_cell HOUT.out 1
            have o2 := block_cell HOUT.out 2
            have m2 := block_loose HOUT.out 2
            simp at o0 o1 o2
            have a0 := block_cell HTS.out.res 0
            have a1 := block_cell HTS.out.res 1
            have a2 := block_cell HTS.out.res 2
            simp at a0 a1 a2
            have l0 := block_loose HTS.out.res 0
            have l1 := block_loose HTS.out.res 1
            have l2 := block_loose HTS.out.res 2
            go_wp2
            have hbs : (!(sB == s)) = t := by rw [← HTB.out]; by_cases hq : sB = s <;> simp [hq]
            rw [hbs]
            have hne : w.heap.size ≠ gb := by omega
            have hg1 : (w7.setCell ⟨gb, 2, none⟩ (.bool t)).heap[gb]? = some (.cells #[.int .i64 (f : Int), .slice ra xs.length rc, .bool t] 42 (0, 0)) := set_block HOUT.out 2 _
            have hr1 : (w7.setCell ⟨gb, 2, none⟩ (.bool t)).heap[w.heap.size]? = some zSeg := (Below.heap_setCell _ _ _ _ hne).trans HTS.out.res
            have hw1 : ReadsR (w7.setCell ⟨gb, 2, none⟩ (.bool t)) (.slice ra xs.length rc) xs := readsR_three HROW.out HOUT.out fun k hk => Below.heap_setCell _ _ _ _ hk
            have hb1 : Below w.heap.size w (w7.setCell ⟨gb, 2, none⟩ (.bool t)) := HTS.out.below.setCell (p := ⟨gb, 2, none⟩) (Nat.le_of_lt hgb) _
            clear o0 o1 o2 m2 a0 a1 a2 l0 l1 l2
            generalize w7.setCell ⟨gb, 2, none⟩ (.bool t) = w8 at *
            have HK := Lib.hid (set_tri (a0 := .int .i64 (f : Int)) (a1 := .slice ra xs.length rc) (a2 := .bool t) hr1)
            have HB9 := Lib.hid (below_tri hb1 (Nat.le_refl _) (.int .i64 (f : Int)) (.slice ra xs.length rc) (.bool t))
            have HR9 : Hid (ReadsR (((w8.setCell ⟨w.heap.size, 0, none⟩ (.int .i64 (f : Int))).setCell ⟨w.heap.size, 1, none⟩ (.slice ra xs.length rc)).setCell ⟨w.heap.size, 2, none⟩ (.bool t)) (.slice ra xs.length rc) xs) := Lib.hid (readsR_three hw1 hr1 fun k hk => by
              rw [Below.heap_setCell _ _ _ _ hk, Below.heap_setCell _ _ _ _ hk, Below.heap_setCell _ _ _ _ hk])
            generalize ((w8.setCell ⟨w.heap.size, 0, none⟩ (.int .i64 (f : Int))).setCell ⟨w.heap.size, 1, none⟩ (.slice ra xs.length rc)).setCell ⟨w.heap.size, 2, none⟩ (.bool t) = w9 at *
            have k0 := block_cell HK.out 0
            have k1 := block_cell HK.out 1
            have k2 := block_cell HK.out 2
            simp only [List.getElem?_toArray, List.getElem?_cons_zero, List.getElem?_cons_succ] at k0 k1 k2
            exact bodyPost_ret (v := .tuple #[.agg #[.int .i64 (f : Int), .slice ra xs.length rc, .bool t], .int .i64 0]) (by simp [results, Tryz.results11, go_sem, k0, k1, k2]) rfl ⟨⟨_, xs, rfl, HXE.out, HR9.out⟩, HB9.out⟩
          · have hre : ([] : Tx).isEmpty = true := rfl
            clear HCS
            have hxl : xs.length ≤ 900 := by omega
            obtain ⟨sB, HSB⟩ : ∃ sB, Hid (segB f (ensOf xs) = sB) := ⟨_, Lib.hid rfl⟩
            have hrt : ∀ p ∈ xs, R.right p.1 = true := fun p hp => R.follows_right HL9.out.good p.1 (List.mem_map_of_mem hp)
            go_wp2_with fail
            refine (rBytes_l f xs _ sB w9 hf2 hxl HL9.out.row hrt HSB).mono ?_
            rintro x w7 ⟨rfl, hb7⟩
            have HTS := Lib.hid (HL9.out.ts.call hb7)
            have HOUT := Lib.hid (block_below HL9.out.out hb7)
            have HROW := Lib.hid (readsR_below HL9.out.row hb7)
            have HTB : Hid (decide (sB ≠ s) = t) := Lib.hid (by rw [← HSB.out, HXE.out]; exact HT.out)
            clear o1 hb7 hrt
            have o0 := block_cell HOUT.out 0
            have o1 := block_cell HOUT.out 1
            have o2 := block_cell HOUT.out 2
            have m2 := block_loose HOUT.out 2
            simp at o0 o1 o2
            have a0 := block_cell HTS.out.res 0
            have a1 := block_cell HTS.out.res 1
            have a2 := block_cell HTS.out.res 2
            simp at a0 a1 a2
            have l0 := block_loose HTS.out.res 0
            have l1 := block_loose HTS.out.res 1
            have l2 := block_loose HTS.out.res 2
            go_wp2
            have hbs : (!(sB == s)) = t := by rw [← HTB.out]; by_cases hq : sB = s <;> simp [hq]
            rw [hbs]
            have hne : w.heap.size ≠ gb := by omega
            have hg1 : (w7.setCell ⟨gb, 2, none⟩ (.bool t)).heap[gb]? = some (.cells #[.int .i64 (f : Int), .slice ra xs.length rc, .bool t] 42 (0, 0)) := set_block HOUT.out 2 _
            have hr1 : (w7.setCell ⟨gb, 2, none⟩ (.bool t)).heap[w.heap.size]? = some zSeg := (Below.heap_setCell _ _ _ _ hne).trans HTS.out.res
            have hw1 : ReadsR (w7.setCell ⟨gb, 2, none⟩ (.bool t)) (.slice ra xs.length rc) xs := readsR_three HROW.out HOUT.out fun k hk => Below.heap_setCell _ _ _ _ hk
            have hb1 : Below w.heap.size w (w7.setCell ⟨gb, 2, none⟩ (.bool t)) := HTS.out.below.setCell (p := ⟨gb, 2, none⟩) (Nat.le_of_lt hgb) _
            clear o0 o1 o2 m2 a0 a1 a2 l0 l1 l2
            generalize w7.setCell ⟨gb, 2, none⟩ (.bool t) = w8 at *
            have HK := Lib.hid (set_tri (a0 := .int .i64 (f : Int)) (a1 := .slice ra xs.length rc) (a2 := .bool t) hr1)
            have HB9 := Lib.hid (below_tri hb1 (Nat.le_refl _) (.int .i64 (f : Int)) (.slice ra xs.length rc) (.bool t))
            have HR9 : Hid (ReadsR (((w8.setCell ⟨w.heap.size, 0, none⟩ (.int .i64 (f : Int))).setCell ⟨w.heap.size, 1, none⟩ (.slice ra xs.length rc)).setCell ⟨w.heap.size, 2, none⟩ (.bool t)) (.slice ra xs.length rc) xs) := Lib.hid (readsR_three hw1 hr1 fun k hk => by
              rw [Below.heap_setCell _ _ _ _ hk, Below.heap_setCell _ _ _ _ hk, Below.heap_setCell _ _ _ _ hk])
            generalize ((w8.setCell ⟨w.heap.size, 0, none⟩ (.int .i64 (f : Int))).setCell ⟨w.heap.size, 1, none⟩ (.slice ra xs.length rc)).setCell ⟨w.heap.size, 2, none⟩ (.bool t) = w9 at *
            have k0 := block_cell HK.out 0
            have k1 := block_cell HK.out 1
            have k2 := block_cell HK.out 2
            simp only [List.getElem?_toArray, List.getElem?_cons_zero, List.getElem?_cons_succ] at k0 k1 k2
            exact bodyPost_ret (v := .tuple #[.agg #[.int .i64 (f : Int), .slice ra xs.length rc, .bool t], .int .i64 0]) (by simp [results, Tryz.results11, go_sem, k0, k1, k2]) rfl ⟨⟨_, xs, rfl, HXE.out, HR9.out⟩, HB9.out⟩
      · have hnb2 : ((N.bt qe 0 : Int) != 101) = true := by simp; omega
        have HXE : Hid (ensOf xs = es) := Lib.hid (by
          rw [← HE.out, HL.out.rest, HDR.out]
          have hn : entOf qe = none := by
            unfold entOf
            rw [if_neg (fun hh => hb (bt_of_head hh))]
          unfold goOn
          rw [hn]
          simp)
        have hxl : xs.length ≤ 900 := by omega
        obtain ⟨sB, HSB⟩ : ∃ sB, Hid (segB f (ensOf xs) = sB) := ⟨_, Lib.hid rfl⟩
        have hrt : ∀ p ∈ xs, R.right p.1 = true := fun p hp => R.follows_right HL.out.good p.1 (List.mem_map_of_mem hp)
        go_wp2_with fail
        refine (rBytes_l f xs _ sB wr hf2 hxl HL.out.row hrt HSB).mono ?_
        rintro x w7 ⟨rfl, hb7⟩
        have HTS := Lib.hid (HL.out.ts.call hb7)
        have HOUT := Lib.hid (block_below HL.out.out hb7)
        have HROW := Lib.hid (readsR_below HL.out.row hb7)
        have HTB : Hid (decide (sB ≠ s) = t) := Lib.hid (by rw [← HSB.out, HXE.out]; exact HT.out)
        clear o1 hb7 hrt
        have o0 := block_cell HOUT.out 0
        have o1 := block_cell HOUT.out 1
        have o2 := block_cell HOUT.out 2
        have m2 := block_loose HOUT.out 2
        simp at o0 o1 o2
        have a0 := block_cell HTS.out.res 0
        have a1 := block_cell HTS.out.res 1
        have a2 := block_cell HTS.out.res 2
        simp at a0 a1 a2
        have l0 := block_loose HTS.out.res 0
        have l1 := block_loose HTS.out.res 1
        have l2 := block_loose HTS.out.res 2
        go_wp2
        have hbs : (!(sB == s)) = t := by rw [← HTB.out]; by_cases hq : sB = s <;> simp [hq]
        rw [hbs]
        have hne : w.heap.size ≠ gb := by omega
        have hg1 : (w7.setCell ⟨gb, 2, none⟩ (.bool t)).heap[gb]? = some (.cells #[.int .i64 (f : Int), .slice ra xs.length rc, .bool t] 42 (0, 0)) := set_block HOUT.out 2 _
        have hr1 : (w7.setCell ⟨gb, 2, none⟩ (.bool t)).heap[w.heap.size]? = some zSeg := (Below.heap_setCell _ _ _ _ hne).trans HTS.out.res
        have hw1 : ReadsR (w7.setCell ⟨gb, 2, none⟩ (.bool t)) (.slice ra xs.length rc) xs := readsR_three HROW.out HOUT.out fun k hk => Below.heap_setCell _ _ _ _ hk
        have hb1 : Below w.heap.size w (w7.setCell ⟨gb, 2, none⟩ (.bool t)) := HTS.out.below.setCell (p := ⟨gb, 2, none⟩) (Nat.le_of_lt hgb) _
        clear o0 o1 o2 m2 a0 a1 a2 l0 l1 l2
        generalize w7.setCell ⟨gb, 2, none⟩ (.bool t) = w8 at *
        have HK := Lib.hid (set_tri (a0 := .int .i64 (f : Int)) (a1 := .slice ra xs.length rc) (a2 := .bool t) hr1)
        have HB9 := Lib.hid (below_tri hb1 (Nat.le_refl _) (.int .i64 (f : Int)) (.slice ra xs.length rc) (.bool t))
        have HR9 : Hid (ReadsR (((w8.setCell ⟨w.heap.size, 0, none⟩ (.int .i64 (f : Int))).setCell ⟨w.heap.size, 1, none⟩ (.slice ra xs.length rc)).setCell ⟨w.heap.size, 2, none⟩ (.bool t)) (.slice ra xs.length rc) xs) := Lib.hid (readsR_three hw1 hr1 fun k hk => by
          rw [Below.heap_setCell _ _ _ _ hk, Below.heap_setCell _ _ _ _ hk, Below.heap_setCell _ _ _ _ hk])
        generalize ((w8.setCell ⟨w.heap.size, 0, none⟩ (.int .i64 (f : Int))).setCell ⟨w.heap.size, 1, none⟩ (.slice ra xs.length rc)).setCell ⟨w.heap.size, 2, none⟩ (.bool t) = w9 at *
        have k0 := block_cell HK.out 0
        have k1 := block_cell HK.out 1
        have k2 := block_cell HK.out 2
        simp only [List.getElem?_toArray, List.getElem?_cons_zero, List.getElem?_cons_succ] at k0 k1 k2
        exact bodyPost_ret (v := .tuple #[.agg #[.int .i64 (f : Int), .slice ra xs.length rc, .bool t], .int .i64 0]) (by simp [results, Tryz.results11, go_sem, k0, k1, k2]) rfl ⟨⟨_, xs, rfl, HXE.out, HR9.out⟩, HB9.out⟩
    · have hi1 : ¬ (j : Int) + 1 < (ps.length : Int) + 1 := by omega
      have HXE : Hid (ensOf xs = es) := Lib.hid (by rw [← HE.out, HL.out.rest, List.drop_eq_nil_of_le (by omega), show goOn ([] : List Tx) (R.lastP (ensOf xs) ((f : Int) - 1)) (R.lastQ (ensOf xs) 0) = [] from rfl, List.append_nil])
      have hxl : xs.length ≤ 900 := by omega
      obtain ⟨sB, HSB⟩ : ∃ sB, Hid (segB f (ensOf xs) = sB) := ⟨_, Lib.hid rfl⟩
      have hrt : ∀ p ∈ xs, R.right p.1 = true := fun p hp => R.follows_right HL.out.good p.1 (List.mem_map_of_mem hp)
      go_wp2_with fail
      refine (rBytes_l f xs _ sB wr hf2 hxl HL.out.row hrt HSB).mono ?_
      rintro x w7 ⟨rfl, hb7⟩
      have HTS := Lib.hid (HL.out.ts.call hb7)
      have HOUT := Lib.hid (block_below HL.out.out hb7)
      have HROW := Lib.hid (readsR_below HL.out.row hb7)
      have HTB : Hid (decide (sB ≠ s) = t) := Lib.hid (by rw [← HSB.out, HXE.out]; exact HT.out)
      clear o1 hb7 hrt
      have o0 := block_cell HOUT.out 0
      have o1 := block_cell HOUT.out 1
      have o2 := block_cell HOUT.out 2
      have m2 := block_loose HOUT.out 2
      simp at o0 o1 o2
      have a0 := block_cell HTS.out.res 0
      have a1 := block_cell HTS.out.res 1
      have a2 := block_cell HTS.out.res 2
      simp at a0 a1 a2
      have l0 := block_loose HTS.out.res 0
      have l1 := block_loose HTS.out.res 1
      have l2 := block_loose HTS.out.res 2
      go_wp2
      have hbs : (!(sB == s)) = t := by rw [← HTB.out]; by_cases hq : sB = s <;> simp [hq]
      rw [hbs]
      have hne : w.heap.size ≠ gb := by omega
      have hg1 : (w7.setCell ⟨gb, 2, none⟩ (.bool t)).heap[gb]? = some (.cells #[.int .i64 (f : Int), .slice ra xs.length rc, .bool t] 42 (0, 0)) := set_block HOUT.out 2 _
      have hr1 : (w7.setCell ⟨gb, 2, none⟩ (.bool t)).heap[w.heap.size]? = some zSeg := (Below.heap_setCell _ _ _ _ hne).trans HTS.out.res
      have hw1 : ReadsR (w7.setCell ⟨gb, 2, none⟩ (.bool t)) (.slice ra xs.length rc) xs := readsR_three HROW.out HOUT.out fun k hk => Below.heap_setCell _ _ _ _ hk
      have hb1 : Below w.heap.size w (w7.setCell ⟨gb, 2, none⟩ (.bool t)) := HTS.out.below.setCell (p := ⟨gb, 2, none⟩) (Nat.le_of_lt hgb) _
      clear o0 o1 o2 m2 a0 a1 a2 l0 l1 l2
      generalize w7.setCell ⟨gb, 2, none⟩ (.bool t) = w8 at *
      have HK := Lib.hid (set_tri (a0 := .int .i64 (f : Int)) (a1 := .slice ra xs.length rc) (a2 := .bool t) hr1)
      have HB9 := Lib.hid (below_tri hb1 (Nat.le_refl _) (.int .i64 (f : Int)) (.slice ra xs.length rc) (.bool t))
      have HR9 : Hid (ReadsR (((w8.setCell ⟨w.heap.size, 0, none⟩ (.int .i64 (f : Int))).setCell ⟨w.heap.size, 1, none⟩ (.slice ra xs.length rc)).setCell ⟨w.heap.size, 2, none⟩ (.bool t)) (.slice ra xs.length rc) xs) := Lib.hid (readsR_three hw1 hr1 fun k hk => by
        rw [Below.heap_setCell _ _ _ _ hk, Below.heap_setCell _ _ _ _ hk, Below.heap_setCell _ _ _ _ hk])
      generalize ((w8.setCell ⟨w.heap.size, 0, none⟩ (.int .i64 (f : Int))).setCell ⟨w.heap.size, 1, none⟩ (.slice ra xs.length rc)).setCell ⟨w.heap.size, 2, none⟩ (.bool t) = w9 at *
      have k0 := block_cell HK.out 0
      have k1 := block_cell HK.out 1
      have k2 := block_cell HK.out 2
      simp only [List.getElem?_toArray, List.getElem?_cons_zero, List.getElem?_cons_succ] at k0 k1 k2
      exact bodyPost_ret (v := .tuple #[.agg #[.int .i64 (f : Int), .slice ra xs.length rc, .bool t], .int .i64 0]) (by simp [results, Tryz.results11, go_sem, k0, k1, k2]) rfl ⟨⟨_, xs, rfl, HXE.out, HR9.out⟩, HB9.out⟩
end Go.Proofs.YtmfhipjceeijmaaGreatDoor.G

/-
  The document's answer for segments: Load.
-/
namespace Go.Proofs.YtmfhipjceeijmaaGreatDoor.G
open Go.RowKit
open D (dP MAt Kp)

theorem head_bt {q : Tx} (h : q.head? = some 115) : N.bt q 0 = 115 := by
  cases q with
  | nil => cases h
  | cons c t => cases h; rfl
theorem rLoad_l {bs p room : Nat} {l : List D.F} (n : Int) (e f : Nat) (es : List R.En) (t : Bool) (w : World) (hm : MAt bs w p (room : Int) l) (hI : D.Inv room l) (hroom : room ≤ 6000) (H : loadD (nameS n) l = (e, f, es, t)) :
    Calls Tryz.prog 11 #[dP p, .int .i64 n] w fun x w' => (∃ v xs, x = .returned (.tuple #[.agg #[.int .i64 (f : Int), v, .bool t], .int .i64 (e : Int)]) ∧ ensOf xs = es ∧ ReadsR w' v xs) ∧ Below w.heap.size w w' := by
  unfold loadD at H
  cases hf : D.find (nameS n) l with
  | none =>
    rw [hf] at H
    cases H
    refine (rLoad_none n w hm hI hf).mono ?_
    rintro x w' ⟨rfl, hb⟩
    exact ⟨⟨_, [], rfl, rfl, readsR_nil _⟩, hb⟩
  | some f0 =>
    rw [hf] at H
    dsimp only at H
    cases hl : loadL f0.data with
    | none =>
      rw [hl] at H
      cases H
      refine (rLoad_form n f0 w hm hI hroom hf hl).mono ?_
      rintro x w' ⟨rfl, hb⟩
      exact ⟨⟨_, [], rfl, rfl, readsR_nil _⟩, hb⟩
    | some o =>
      rw [hl] at H
      dsimp only at H
      obtain ⟨f1, es1, t1⟩ := o
      cases H
      unfold loadL at hl
      cases h : (F.scan f0.data).1 with
      | nil => rw [h] at hl; cases hl
      | cons q ps =>
        rw [h] at hl
        dsimp only at hl
        have hg := fun q' (hq : q' ∈ q :: ps) => scan_good _ f0.data (Nat.le_refl _) q' (by rw [h]; exact hq)
        cases hh : headOf q with
        | none => rw [hh] at hl; cases hl
        | some k =>
          rw [hh] at hl
          dsimp only at hl
          cases hl
          obtain ⟨rfl, h1, h2⟩ := headOf_inv hh
          have h3 := N.take_put (n := f) (by unfold far at h2; omega) []
          rw [List.append_nil] at h3
          exact rLoad_ok n f0.data f0 f _ _ w hm hI hroom hf rfl (headP f) ps h (hg _ List.mem_cons_self).1 (hg _ List.mem_cons_self).2 (head_bt rfl) h3 h1 h2 (Lib.hid rfl) (Lib.hid rfl) (fun q' hq => hg q' (List.mem_cons_of_mem _ hq))
end Go.Proofs.YtmfhipjceeijmaaGreatDoor.G

/-
  The document's answer for segments: Add.
-/
namespace Go.Proofs.YtmfhipjceeijmaaGreatDoor.G
open Go.RowKit
open D (dP MAt Kp)
attribute [local go_sem] ext_Bd ext_Bl ext_Bt toList_B add_B size_B get_Bt

theorem load_few {s : Tx} {n : Nat} {es : List R.En} {t : Bool} (h : loadL s = some (n, es, t)) : 8 * es.length ≤ s.length := by
  unfold loadL at h
  cases hq : (F.scan s).1 with
  | nil => rw [hq] at h; cases h
  | cons q qs =>
    rw [hq] at h
    dsimp only at h
    cases hh : headOf q with
    | none => rw [hh] at h; cases h
    | some m =>
      rw [hh] at h
      dsimp only at h
      cases h
      obtain ⟨r, hr⟩ := goOn_part qs ((n : Int) - 1) 0
      have h1 := scan_many _ s (Nat.le_refl _)
      rw [hq] at h1
      have h2 := congrArg List.length hr
      rw [List.length_append, List.length_map] at h2
      simp only [List.length_cons] at h1
      omega
theorem loadD_bd {room : Nat} {nm : Tx} {l : List D.F} {e f : Nat} {es : List R.En} {t : Bool} (hI : D.Inv room l) (h : loadD nm l = (e, f, es, t)) : (e = 0 → 1 ≤ f ∧ R.follows es ((f : Int) - 1) 0 = true) ∧ f ≤ far ∧ 8 * es.length ≤ room := by
  unfold loadD at h
  cases hf : D.find nm l with
  | none => rw [hf] at h; cases h; exact ⟨fun h => (by cases h), Nat.zero_le _, by simp⟩
  | some f0 =>
    rw [hf] at h
    dsimp only at h
    cases hl : loadL f0.data with
    | none => rw [hl] at h; cases h; exact ⟨fun h => (by cases h), Nat.zero_le _, by simp⟩
    | some o =>
      rw [hl] at h
      obtain ⟨a, b, c⟩ := o
      cases h
      obtain ⟨h1, h2, h3, _⟩ := load_is hl
      exact ⟨fun _ => ⟨h1, h3⟩, h2, Nat.le_trans (load_few hl) (data_le hI (D.find_some hf).1)⟩
theorem take_last {xs : List EV} {j : Nat} (h : j < xs.length) (p q : Int) : R.lastP (ensOf (xs.take (j + 1))) p = xs[j].1.pos ∧ R.lastQ (ensOf (xs.take (j + 1))) q = xs[j].1.epoch := by
  have e : ensOf (xs.take (j + 1)) = ensOf (xs.take j) ++ [xs[j].1] := by
    rw [List.take_succ_eq_append_getElem h]
    exact List.map_append
  rw [e]
  constructor
  · unfold R.lastP; simp
  · unfold R.lastQ; simp
theorem lastP_bd {es : List R.En} {p : Int} (h : ∀ e ∈ es, R.right e = true) (hp : i64B p) : i64B (R.lastP es p) := by
  unfold R.lastP
  cases hg : es.getLast? with
  | none => exact hp
  | some e =>
    have := R.right_iff.1 (h e (List.mem_of_getLast? hg))
    have hl : R.large = 274877906944 := rfl
    show i64B e.pos
    unfold i64B
    omega
set_option maxRecDepth 100000 in
set_option maxHeartbeats 4000000 in
theorem rAdd_l {bs p room : Nat} {l : List D.F} (n : Int) (xs : List EV) (v : Value) (e : Nat) (l2 : List D.F) (w : World) (hm : MAt bs w p (room : Int) l) (hI : D.Inv room l) (hroom : room ≤ 6000) (hv : ReadsR w v xs) (hl : xs.length ≤ 900) (hty : ∀ x ∈ xs, E.Tiny x.1.b) (H : addD room (nameS n) (ensOf xs) l = (e, l2)) :
    Calls Tryz.prog 22 #[dP p, .int .i64 n, v] w fun x w' => x = .returned (.int .i64 (e : Int)) ∧ MAt bs w' p (room : Int) l2 ∧ Kp bs p w w' := by
  obtain ⟨nm, HN⟩ : ∃ nm, Hid (nameS n = nm) := ⟨_, Lib.hid rfl⟩
  have hnl : nm.length ≤ 1000000 := by rw [← HN.out]; have := name_len n; omega
  obtain ⟨e1, f, es, t, HL⟩ : ∃ e1 f es t, Hid (loadD nm l = (e1, f, es, t)) := ⟨_, _, _, _, Lib.hid rfl⟩
  have HBD := Lib.hid (loadD_bd hI HL.out)
  have HM := Lib.hid hm
  have HI := Lib.hid hI
  have HTY := Lib.hid hty
  have hV := hv
  obtain ⟨va, vc, rfl, -⟩ := hv
  have HV := Lib.hid hV
  have HA := Lib.hid H
  clear hm hI hty hV H
  go_enter Tryz.func22, Tryz.ntmps22
  go_wp2_with fail
  refine (rLoad_l n e1 f es t w HM.out HI.out hroom (by rw [HN.out]; exact HL.out)).mono ?_
  rintro x w1 ⟨⟨v1, ys, rfl, hens, hr1⟩, hb1⟩
  obtain ⟨ya, yc, rfl, -⟩ := id hr1
  have HEN := Lib.hid hens
  have hal : Below w1.heap.size w1 (w1.alloc (.cells #[.int .i64 (f : Int), .slice ya ys.length yc, .bool t] 42)) := (Below.refl _ w1).alloc (Nat.le_refl _) _
  have HBL := Lib.hid (hb1.trans (hal.mono hb1.size))
  have HRY := Lib.hid (readsR_below hr1 hal)
  have HNB := Lib.hid (World.alloc_heap_new w1 (.cells #[.int .i64 (f : Int), .slice ya ys.length yc, .bool t] 42))
  have hf2 : f ≤ 274877906944 := HBD.out.2.1
  have hyl : ys.length ≤ 900 := by have := HBD.out.2.2; rw [← hens, ensOf_len] at this; omega
  clear hr1 hb1 hal hens
  by_cases he1 : e1 = 0
  · subst he1
    have he0 : ((0 : Int) == 0) = true := rfl
    cases t
    · have hfo := (HBD.out.1 rfl).2
      have hf1 := (HBD.out.1 rfl).1
      have HRT := Lib.hid (R.follows_right hfo)
      have HFO := Lib.hid hfo
      clear hfo HBD
      go_wp2
      generalize w1.alloc (.cells #[.int .i64 (f : Int), .slice ya ys.length yc, .bool false] 42) = W at *
      generalize w1.heap.size = gs at *
      have c0 := block_cell HNB.out 0
      have c1 := block_cell HNB.out 1
      have c2 := block_cell HNB.out 2
      simp at c0 c1 c2
      go_loopw [9, 10, 11] (fun a b i wr => ∃ j : Nat, i = .int .i64 (j : Int) ∧ a = .int .i64 (R.lastP (ensOf (ys.take j)) ((f : Int) - 1)) ∧ b = .int .i64 (R.lastQ (ensOf (ys.take j)) 0) ∧ j ≤ ys.length ∧ W = wr) (fun _ _ i _ => ys.length - (intOf i).toNat)
      case atStart => exact ⟨0, rfl, by simp [ensOf, R.lastP], by simp [ensOf, R.lastQ], Nat.zero_le _, rfl⟩
      case round =>
        obtain ⟨j, rfl, rfl, rfl, hj, rfl⟩ := hrel
        by_cases hlt : j < ys.length
        · have hi1 : (j : Int) < (ys.length : Int) := by omega
          obtain ⟨yb, yc2, hyv, -, -, hx⟩ := id HRY.out
          cases hyv
          obtain ⟨-, -, b, off, hab, h7⟩ := hx j hlt
          subst hab
          have z0 := h7.1
          have z1 := h7.2.1
          have HTL := Lib.hid (take_last hlt ((f : Int) - 1) 0)
          clear h7 hx
          generalize ys[j] = pj at *
          go_wp2
          go_roundw
          case rel => exact ⟨j + 1, by go_num, by rw [HTL.out.1], by rw [HTL.out.2], by omega, by trivial⟩
          case measure => simp [intOf]; omega
        · have hi1 : ¬ (j : Int) < (ys.length : Int) := by omega
          have hje : j = ys.length := by omega
          subst hje
          rw [List.take_length, HEN.out]
          have hpb : i64B (R.lastP es ((f : Int) - 1)) := lastP_bd HRT.out (by unfold i64B; omega)
          obtain ⟨b, HFB⟩ : ∃ b, Hid (R.follows (ensOf xs) (R.lastP es ((f : Int) - 1)) (R.lastQ es 0) = b) := ⟨_, Lib.hid rfl⟩
          have HVW := Lib.hid (readsR_below HV.out HBL.out)
          have HMW := Lib.hid (HM.out.below HBL.out)
          obtain ⟨lp, HLP⟩ : ∃ lp, Hid (R.lastP es ((f : Int) - 1) = lp) := ⟨_, Lib.hid rfl⟩
          obtain ⟨lq, HLQ⟩ : ∃ lq, Hid (R.lastQ es 0 = lq) := ⟨_, Lib.hid rfl⟩
          rw [HLP.out, HLQ.out]
          rw [HLP.out] at hpb
          rw [HLP.out, HLQ.out] at HFB
          go_wp2_with fail
          refine (refFollows_l xs _ lp lq W HVW.out (by omega) HTY.out hpb).mono ?_
          rintro x w2 ⟨rfl, hb2⟩
          rw [HFB.out]
          have HB2 := Lib.hid (HBL.out.trans (hb2.mono HBL.out.size))
          have HM2 := Lib.hid (HMW.out.below hb2)
          have HV2 := Lib.hid (readsR_below HVW.out hb2)
          clear hb2 HMW HVW c0 c1 c2 hpb
          have HA2 : Hid ((if b = false then ((11, l) : Nat × List D.F) else if ensOf xs = [] then (0, l) else if (D.append room nm (F.frames ((ensOf xs).map pay)) l).1 = 0 then D.sync nm (D.append room nm (F.frames ((ensOf xs).map pay)) l).2 else ((D.append room nm (F.frames ((ensOf xs).map pay)) l).1, l)) = (e, l2)) := Lib.hid (by
            have h := HA.out
            unfold addD at h
            rw [HN.out, HL.out] at h
            dsimp only at h
            rw [if_neg (by decide)] at h
            rw [HLP.out, HLQ.out, HFB.out] at h
            exact h)
          clear HA HL
          cases b
          · have h := HA2.out
            rw [if_pos rfl] at h
            cases h
            clear HA2
            go_wp2
            go_ret
            exact ⟨rfl, HM2.out, Kp.of_below HB2.out⟩
          · have hA := HA2.out
            rw [if_neg (by decide)] at hA
            clear HA2
            by_cases hxs : xs = []
            · subst hxs
              rw [if_pos (show ensOf [] = [] from rfl)] at hA
              cases hA
              go_wp2
              go_ret
              exact ⟨rfl, HM2.out, Kp.of_below HB2.out⟩
            · have hx1 : ¬ xs.length = 0 := fun h => hxs (List.eq_nil_of_length_eq_zero h)
              have hx0 : ((xs.length : Int) == 0) = false := beq_eq_false_iff_ne.2 (by omega)
              rw [if_neg (fun h => hx1 (by have := congrArg List.length h; rwa [ensOf_len] at this))] at hA
              have HRX : Hid (∀ q ∈ xs, R.right q.1 = true) := Lib.hid fun q hq => R.follows_right HFB.out q.1 (List.mem_map_of_mem hq)
              obtain ⟨s1, HS1⟩ : ∃ s1, Hid (segB 1 (ensOf xs) = s1) := ⟨_, Lib.hid rfl⟩
              obtain ⟨s0, HS0⟩ : ∃ s0, Hid (segB 1 (ensOf []) = s0) := ⟨_, Lib.hid rfl⟩
              obtain ⟨fr, HFR⟩ : ∃ fr, Hid (F.frames ((ensOf xs).map pay) = fr) := ⟨_, Lib.hid rfl⟩
              have HSS : Hid (s1 = s0 ++ fr) := Lib.hid (by rw [← HS1.out, ← HS0.out, ← HFR.out]; exact segB_append 1 [] (ensOf xs))
              have hs1l : s1.length ≤ 4000000 := by
                rw [← HS1.out]
                have := segB_len (n := 1) (es := ensOf xs) (by unfold far; omega) (fun q hq => by obtain ⟨q2, h2, rfl⟩ := List.mem_map.1 hq; exact HRX.out q2 h2)
                rw [ensOf_len] at this
                omega
              have hs01 : s0.length ≤ s1.length := by rw [HSS.out, List.length_append]; omega
              have hfrl : fr.length ≤ 4000000 := by rw [HSS.out, List.length_append] at hs1l; omega
              have HDR : Hid (s1.drop s0.length = fr) := Lib.hid (by rw [HSS.out, List.drop_left])
              rw [HFR.out] at hA
              obtain ⟨e2, l3, HAP⟩ : ∃ e2 l3, Hid (D.append room nm fr l = (e2, l3)) := ⟨_, _, Lib.hid rfl⟩
              rw [HAP.out] at hA
              dsimp only at hA
              have HAE := Lib.hid hA
              have HI3 : Hid (D.Inv room l3) := Lib.hid (by have := HI.out.append (n := nm) (s := fr); rw [HAP.out] at this; exact this)
              have HU := Lib.hid (show D.used l ≤ 4000000000 by have := HI.out.room; omega)
              clear hA HFB hxs
              go_wp2_with fail
              refine (rBytes_l 1 xs _ s1 w2 (by unfold far; omega) hl HV2.out HRX.out HS1).mono ?_
              rintro x w3 ⟨rfl, hb3⟩
              have HB3 := Lib.hid (HB2.out.trans (hb3.mono HB2.out.size))
              have HM3 := Lib.hid (HM2.out.below hb3)
              clear hb3 HM2 HB2 HV2
              go_wp2_with fail
              refine (rName_l n w3).mono ?_
              rintro x w4 ⟨rfl, rfl⟩
              rw [HN.out]
              go_wp2_with fail
              refine (rBytes_l 1 [] (.slice none 0 0) s0 w4 (by unfold far; omega) (by simp) (readsR_nil w4) (by simp) HS0).mono ?_
              rintro x w5 ⟨rfl, hb5⟩
              have HB5 := Lib.hid (HB3.out.trans (hb5.mono HB3.out.size))
              have HM5 := Lib.hid (HM3.out.below hb5)
              clear hb5 HM3 HB3
              have hs01i : (s0.length : Int) ≤ (s1.length : Int) := by omega
              go_wp2_with fail
              rw [HDR.out]
              refine (D.mAppend_l p room l nm fr e2 l3 w5 HM5.out HI.out.sorted HI.out.many hnl (by omega) HU.out HAP).mono ?_
              rintro x w6 ⟨rfl, hm6, hk6⟩
              have HM6 := Lib.hid hm6
              have HK6 := Lib.hid ((Kp.of_below (bs := bs) (p := p) HB5.out).trans hk6)
              clear hm6 hk6
              by_cases he : e2 = 0
              · subst he
                have hA := HAE.out
                rw [if_pos rfl] at hA
                go_wp2_with fail
                refine (rName_l n w6).mono ?_
                rintro x w7 ⟨rfl, rfl⟩
                rw [HN.out]
                go_wp2_with fail
                refine (D.mSync_l p room l3 nm e l2 w7 HM6.out HI3.out.sorted (by have := HI3.out.many; omega) (fun f hf => by have := data_le HI3.out hf; omega) (Lib.hid hA)).mono ?_
                rintro x w8 ⟨rfl, hm8, hk8⟩
                have HK8 := Lib.hid (HK6.out.trans hk8)
                have HM8 := Lib.hid hm8
                clear hm8 hk8
                go_wp2
                go_ret
                exact ⟨rfl, HM8.out, HK8.out⟩
              · have hA := HAE.out
                rw [if_neg he] at hA
                have hei : ((e2 : Int) == 0) = false := beq_eq_false_iff_ne.2 (by omega)
                have hei2 : ¬ (e2 : Int) = 0 := by omega
                have hl1 : l3 = l := by have := append_err (room := room) (nm := nm) (s := fr) (l := l) (by rw [HAP.out]; exact he); rw [HAP.out] at this; exact this
                have HQ : Hid (e2 = e ∧ l3 = l2) := Lib.hid ⟨congrArg Prod.fst hA, hl1.trans (congrArg Prod.snd hA)⟩
                clear hl1 hA
                clear HAE
                obtain ⟨he3, he4⟩ := HQ.out
                subst he3
                subst he4
                go_wp2
                go_ret
                exact ⟨rfl, HM6.out, HK6.out⟩
    · have HE : Hid (e = 2 ∧ l2 = l) := Lib.hid (by
        have h := HA.out
        unfold addD at h
        rw [HN.out, HL.out] at h
        dsimp only at h
        rw [if_pos rfl] at h
        cases h
        exact ⟨rfl, rfl⟩)
      obtain ⟨rfl, rfl⟩ := HE.out
      clear HA HE
      go_wp2
      go_ret
      exact ⟨rfl, HM.out.below HBL.out, Kp.of_below HBL.out⟩
  · have HE : Hid (e = e1 ∧ l2 = l) := Lib.hid (by
      have h := HA.out
      unfold addD at h
      rw [HN.out, HL.out] at h
      cases e1 with
      | zero => exact absurd rfl he1
      | succ k => cases h; exact ⟨rfl, rfl⟩)
    obtain ⟨rfl, rfl⟩ := HE.out
    have hei : ((e : Int) == 0) = false := beq_eq_false_iff_ne.2 (by omega)
    have hei2 : ¬ (e : Int) = 0 := by omega
    clear HA HE
    go_wp2
    go_ret
    exact ⟨rfl, HM.out.below HBL.out, Kp.of_below HBL.out⟩
end Go.Proofs.YtmfhipjceeijmaaGreatDoor.G

/-
  The document's answer for segments: Cut.
-/
namespace Go.Proofs.YtmfhipjceeijmaaGreatDoor.G
open Go.RowKit
open D (dP MAt Kp)
attribute [local go_sem] ext_Bd ext_Bl ext_Bt toList_B add_B size_B get_Bt

/-- Entries do not lie in a block without a text. -/
theorem readsR_off {w w' : World} {g : Nat} {v : Value} {xs : List EV} (h : ReadsR w v xs) (hg : ∀ j st, w.cell? ⟨g, j, none⟩ ≠ some (.string st))
    (hk : ∀ k, k < w.heap.size → k ≠ g → w'.heap[k]? = w.heap[k]?) : ReadsR w' v xs := by
  have hcell : ∀ b j u, b ≠ g → w.cell? ⟨b, j, none⟩ = some u → w'.cell? ⟨b, j, none⟩ = some u := fun b j u hb hu => by
    have hlt := World.block_lt_of_cell? w ⟨b, j, none⟩ hu
    have : w'.cell? ⟨b, j, none⟩ = w.cell? ⟨b, j, none⟩ := by simp [World.cell?, hk b hlt hb]
    rw [this]; exact hu
  obtain ⟨a, cap, hv, hc, hn, hx⟩ := h
  refine ⟨a, cap, hv, hc, hn, fun i hi => ?_⟩
  obtain ⟨hre, hp, b, off, ha, h0, h1, h2, h3, h4, h5, h6⟩ := hx i hi
  have hb : b ≠ g := fun e => by subst e; exact hg _ _ h2
  refine ⟨?_, hp, b, off, ha, hcell _ _ _ hb h0, hcell _ _ _ hb h1, hcell _ _ _ hb h2, hcell _ _ _ hb h3, hcell _ _ _ hb h4, hcell _ _ _ hb h5, hcell _ _ _ hb h6⟩
  obtain ⟨a2, cap2, hv2, hc2, hn2, hx2⟩ := hre
  refine ⟨a2, cap2, hv2, hc2, hn2, fun k hk2 => ?_⟩
  obtain ⟨b2, o2, ha2, e0, e1⟩ := hx2 k hk2
  have hb2 : b2 ≠ g := fun e => by subst e; exact hg _ _ e0
  exact ⟨b2, o2, ha2, hcell _ _ _ hb2 e0, hcell _ _ _ hb2 e1⟩
theorem mAt_nostr {bs p : Nat} {room : Int} {l : List D.F} {w : World} (h : MAt bs w p room l) (j : Nat) (st : ByteArray) : w.cell? ⟨p, j, none⟩ ≠ some (.string st) := fun e => by
  obtain ⟨a, cap, hr⟩ := h.rd
  obtain ⟨_, v, hp, _⟩ := h
  have e0 := (block_cell hp j).symm.trans e
  rcases j with _ | _ | j
  · have h0 := (block_cell hp 0).symm.trans hr.c0
    simp at e0 h0
    rw [h0] at e0
    cases e0
  · simp at e0
  · simp at e0
theorem del_is (n : Tx) (l : List D.F) : ∃ x, D.delete n l = (x, D.del n l) := by
  unfold D.delete
  cases hf : D.find n l with
  | none => exact ⟨_, by rw [D.del_none hf]⟩
  | some f => exact ⟨_, rfl⟩
set_option maxRecDepth 100000 in
set_option maxHeartbeats 4000000 in
theorem rCut_l {bs p room : Nat} {l : List D.F} (n last : Int) (e : Nat) (l2 : List D.F) (w : World) (hm : MAt bs w p (room : Int) l) (hI : D.Inv room l) (hroom : room ≤ 6000) (H : cutD room (nameS n) last l = (e, l2)) :
    Calls Tryz.prog 24 #[dP p, .int .i64 n, .int .i64 last] w fun x w' => x = .returned (.int .i64 (e : Int)) ∧ MAt bs w' p (room : Int) l2 ∧ Kp bs p w w' := by
  obtain ⟨nm, HN⟩ : ∃ nm, Hid (nameS n = nm) := ⟨_, Lib.hid rfl⟩
  have hnl : nm.length ≤ 14 := by rw [← HN.out]; have := name_len n; omega
  obtain ⟨e1, f, es, t, HL⟩ : ∃ e1 f es t, Hid (loadD nm l = (e1, f, es, t)) := ⟨_, _, _, _, Lib.hid rfl⟩
  have HBD := Lib.hid (loadD_bd hI HL.out)
  have HM := Lib.hid hm
  have HI := Lib.hid hI
  have HA := Lib.hid H
  have hlo : bs ≤ p := hm.1
  have hpw : p < w.heap.size := by obtain ⟨_, v, hp, _⟩ := hm; exact (Array.getElem?_eq_some_iff.1 hp).1
  clear hm hI H
  go_enter Tryz.func24, Tryz.ntmps24
  go_wp2_with fail
  refine (rLoad_l n e1 f es t w HM.out HI.out hroom (by rw [HN.out]; exact HL.out)).mono ?_
  rintro x w1 ⟨⟨v1, ys, rfl, hens, hr1⟩, hb1⟩
  obtain ⟨ya, yc, rfl, hyc, -⟩ := id hr1
  have HEN := Lib.hid hens
  have hal : Below w1.heap.size w1 (w1.alloc (.cells #[.int .i64 (f : Int), .slice ya ys.length yc, .bool t] 42)) := (Below.refl _ w1).alloc (Nat.le_refl _) _
  have HBL := Lib.hid (hb1.trans (hal.mono hb1.size))
  have HRY := Lib.hid (readsR_below hr1 hal)
  have HNB := Lib.hid (World.alloc_heap_new w1 (.cells #[.int .i64 (f : Int), .slice ya ys.length yc, .bool t] 42))
  have hf2 : f ≤ 274877906944 := HBD.out.2.1
  have hyl : ys.length ≤ 900 := by have := HBD.out.2.2; rw [← hens, ensOf_len] at this; omega
  have hgp : p < w1.heap.size := Nat.lt_of_lt_of_le hpw hb1.size
  clear hr1 hb1 hal hens
  by_cases he1 : e1 = 0
  · subst he1
    have he0 : ((0 : Int) == 0) = true := rfl
    have HRT := Lib.hid (R.follows_right (HBD.out.1 rfl).2)
    go_wp2
    have HMW := Lib.hid (HM.out.below HBL.out)
    generalize w1.alloc (.cells #[.int .i64 (f : Int), .slice ya ys.length yc, .bool t] 42) = W at *
    generalize w1.heap.size = gs at *
    have c0 := block_cell HNB.out 0
    have c1 := block_cell HNB.out 1
    have c2 := block_cell HNB.out 2
    simp at c0 c1 c2
    have hx := HRY.out
    obtain ⟨yb, yc2, hyv, -, -, hx⟩ := hx
    cases hyv
    have HX0 := Lib.hid hx
    clear hx
    go_loop [9] (fun a => ∃ j : Nat, a = .int .i64 (j : Int) ∧ j ≤ ys.length ∧ Hid (∀ i (h : i < ys.length), i < j → ys[i].1.pos ≤ last)) (fun a => ys.length - (intOf a).toNat)
    case atStart => exact ⟨0, rfl, Nat.zero_le _, Lib.hid fun i _ h => by omega⟩
    case round =>
      obtain ⟨k, rfl, hk, HJ⟩ := hrel
      by_cases hgo : ∃ h : k < ys.length, ys[k].1.pos ≤ last
      · obtain ⟨hlt, hpl⟩ := hgo
        have hlti : (k : Int) < (ys.length : Int) := by omega
        obtain ⟨-, -, b, off, hab, h7⟩ := HX0.out k hlt
        subst hab
        have z0 := h7.1
        have HJ2 : Hid (∀ i (h : i < ys.length), i < k + 1 → ys[i].1.pos ≤ last) := Lib.hid fun i hi h => by
          by_cases e : i = k
          · subst e; exact hpl
          · exact HJ.out i hi (by omega)
        clear h7 HJ
        generalize (ys[k]).1.pos = pk at *
        go_wp2
        go_round
        case rel => exact ⟨k + 1, by go_num, by omega, HJ2⟩
        case measure => simp [intOf]; omega
      have HUP : Hid (upto last es = es.take k) := Lib.hid (by
        rw [← HEN.out]
        exact upto_of (by rw [ensOf_len]; exact hk) (fun i hi hik => by
          have := HJ.out i (by rw [ensOf_len] at hi; exact hi) hik
          simpa using this) (fun hlt => by
          rw [ensOf_len] at hlt
          have : ¬ ys[k].1.pos ≤ last := fun h => hgo ⟨hlt, h⟩
          simpa using this))
      have HGO := Lib.hid hgo
      clear hgo HJ
      have HTK : Hid (ensOf (ys.take k) = es.take k) := Lib.hid (by rw [← HEN.out]; exact List.map_take)
      have HRTK : Hid (∀ q ∈ ys.take k, R.right q.1 = true) := Lib.hid fun q hq => HRT.out q.1 (by rw [← HEN.out]; exact List.mem_map_of_mem (List.mem_of_mem_take hq))
      have HEL : Hid (es.length = ys.length) := Lib.hid (by rw [← HEN.out, ensOf_len])
      have HA1 : Hid ((if t = false ∧ (es.take k).length = es.length then ((0, l) : Nat × List D.F) else if (D.append room temp (segB f (es.take k)) (D.del temp l)).1 = 0 then D.rename temp nm (D.sync temp (D.append room temp (segB f (es.take k)) (D.del temp l)).2).2
          else ((D.append room temp (segB f (es.take k)) (D.del temp l)).1, D.del temp l)) = (e, l2)) := Lib.hid (by
        have h := HA.out
        unfold cutD at h
        rw [HN.out, HL.out] at h
        dsimp only at h
        rw [HUP.out] at h
        exact h)
      clear HA HL HUP HRT
      go_upto_region 5 with (fail)
      go_cut [34] (fun x wx => x = .bool false ∧ W = wx)
      case first =>
        by_cases hlt : k < ys.length
        · have hlti : (k : Int) < (ys.length : Int) := by omega
          obtain ⟨-, -, b, off, hab, h7⟩ := HX0.out k hlt
          subst hab
          have z0 := h7.1
          have hpl : ¬ (ys[k]).1.pos ≤ last := fun h => HGO.out ⟨hlt, h⟩
          clear h7 HGO
          generalize (ys[k]).1.pos = pk at *
          go_wp2
          go_meet
          exact ⟨rfl, rfl⟩
        · have hlti : ¬ (k : Int) < (ys.length : Int) := by omega
          clear HGO
          go_wp2
          go_meet
          exact ⟨rfl, rfl⟩
      case rest =>
      obtain ⟨rfl, rfl⟩ := hcut
      clear HGO HX0
      by_cases hdone : k = ys.length ∧ t = false
      · obtain ⟨hk2, rfl⟩ := hdone
        have hki : ((k : Int) == (ys.length : Int)) = true := beq_iff_eq.2 (by omega)
        have HE : Hid (e = 0 ∧ l2 = l) := Lib.hid (by
          have h := HA1.out
          rw [if_pos ⟨rfl, by rw [List.length_take, HEL.out, hk2, Nat.min_self]⟩] at h
          cases h
          exact ⟨rfl, rfl⟩)
        obtain ⟨rfl, rfl⟩ := HE.out
        clear HA1 HE
        go_wp2
        go_ret
        exact ⟨rfl, HMW.out, Kp.of_below HBL.out⟩
      have HCC : Hid (((k : Int) == (ys.length : Int)) = false ∨ (((k : Int) == (ys.length : Int)) = true ∧ t = true)) := Lib.hid (by
        by_cases h : k = ys.length
        · refine .inr ⟨beq_iff_eq.2 (by omega), ?_⟩
          cases t
          · exact absurd ⟨h, rfl⟩ hdone
          · rfl
        · exact .inl (beq_eq_false_iff_ne.2 (by omega)))
      obtain ⟨sB, HSB⟩ : ∃ sB, Hid (segB f (ensOf (ys.take k)) = sB) := ⟨_, Lib.hid rfl⟩
      have hsl : sB.length ≤ 4000000 := by
        rw [← HSB.out]
        have := segB_len (n := f) (es := ensOf (ys.take k)) HBD.out.2.1 (fun q hq => by obtain ⟨q2, h2, rfl⟩ := List.mem_map.1 hq; exact HRTK.out q2 h2)
        rw [ensOf_len, List.length_take] at this
        omega
      have hA := HA1.out
      rw [if_neg (fun h => hdone ⟨by have := h.2; rw [List.length_take, HEL.out] at this; omega, h.1⟩), show segB f (es.take k) = sB by rw [← HTK.out]; exact HSB.out] at hA
      clear HA1 hdone
      obtain ⟨x0, hx0⟩ := del_is temp l
      have HD := Lib.hid hx0
      have HI1 := Lib.hid (HI.out.del (n := temp))
      have HDD := Lib.hid (show D.delete temp (D.del temp l) = (6, D.del temp l) by unfold D.delete; rw [D.find_del])
      clear hx0
      generalize D.del temp l = l1 at *
      obtain ⟨e2, la, HAP⟩ : ∃ e2 la, Hid (D.append room temp sB l1 = (e2, la)) := ⟨_, _, Lib.hid rfl⟩
      rw [HAP.out] at hA
      dsimp only at hA
      have HAE := Lib.hid hA
      have HI2 : Hid (D.Inv room la) := Lib.hid (by have := HI1.out.append (n := temp) (s := sB); rw [HAP.out] at this; exact this)
      clear hA
      go_upto_region 7 with (fail)
      go_cut [46] (fun x wx => x = .bool false ∧ W = wx)
      case first =>
        rcases HCC.out with hki | ⟨hki, rfl⟩
        · go_wp2
          go_meet
          exact ⟨rfl, rfl⟩
        · go_wp2
          go_meet
          exact ⟨rfl, rfl⟩
      case rest =>
      obtain ⟨rfl, rfl⟩ := hcut
      go_wp2_with fail
      refine (D.mDelete_l p room l temp x0 l1 W HMW.out HI.out.sorted HI.out.many HD).mono ?_
      rintro x w2 ⟨rfl, hm2, hk2, -⟩
      have hdr : Below w2.heap.size w2 w2.drew := (Below.refl _ w2).drew
      have HR3 : Hid (ReadsR w2.drew (.slice ya ys.length yc) ys) := Lib.hid (readsR_below (readsR_off (g := p) HRY.out (mAt_nostr HMW.out) hk2.block) hdr)
      have hgs : gs < W.heap.size := (Array.getElem?_eq_some_iff.1 HNB.out).1
      have HG3 : Hid (w2.drew.heap[gs]? = some (.cells #[.int .i64 (f : Int), .slice ya ys.length yc, .bool t] 42 (0, 0))) := Lib.hid ((hk2.block gs hgs (by omega)).trans HNB.out)
      have HM3 := Lib.hid (hm2.below hdr)
      have HK3 := Lib.hid (((Kp.of_below (bs := bs) (p := p) HBL.out).trans (hk2.kp hlo)).trans (Kp.of_below hdr))
      have HKS : Hid (∀ a b : World, Kp bs p a b → a.heap[gs]? = some (.cells #[.int .i64 (f : Int), .slice ya ys.length yc, .bool t] 42 (0, 0)) → b.heap[gs]? = some (.cells #[.int .i64 (f : Int), .slice ya ys.length yc, .bool t] 42 (0, 0))) := Lib.hid fun a b hk h => hk.block gs _ h (.inr ⟨by omega, fun c fr e => by cases e⟩)
      have b0 := block_cell HG3.out 0
      have b1 := block_cell HG3.out 1
      simp at b0 b1
      clear hm2 hk2 hdr c0 c1 c2 HMW HRY HNB
      have hkc : (k : Int) ≤ (yc : Int) := by omega
      have hkn : (k : Int) ≤ (ys.length : Int) := by omega
      go_upto_region 10 with (fail)
      refine wp_region_held_drew (S := fun w' => w'.cell? ⟨gs, 0, none⟩ = some (.int .i64 (f : Int)) ∧ w'.cell? ⟨gs, 1, none⟩ = some (.slice ya ys.length yc)) (by kernel_rfl) ?_ (fun hHeld => ?_)
      · exact ⟨b0, b1⟩
      generalize w2.drew = w3 at *
      refine take_wanted (i := 0) (v := ?_) rfl (by kernel_rfl) (by kernel_rfl) (by kernel_rfl) (fun _ _ _ h => h) (by rfl) ?_ (by assumption) ?_
      rotate_left
      · intro w hSw
        (try dsimp only at hSw)
        go_simp
        (try with_reducible rfl)
      simp only [Act.put, List.setIfInBounds_toArray, List.set_cons_zero, List.set_cons_succ]
      refine take_wanted (i := 1) (v := ?_) rfl (by kernel_rfl) (by kernel_rfl) (by kernel_rfl) (fun _ _ _ h => h) (by rfl) ?_ (by assumption) ?_
      rotate_left
      · intro w hSw
        (try dsimp only at hSw)
        go_simp
        (try with_reducible rfl)
      simp only [Act.put, List.setIfInBounds_toArray, List.set_cons_zero, List.set_cons_succ]
      refine take_wanted (i := 2) (v := ?_) rfl (by kernel_rfl) (by kernel_rfl) (by kernel_rfl) (fun _ _ _ h => h) (by rfl) ?_ (by assumption) ?_
      rotate_left
      · intro w hSw
        (try dsimp only at hSw)
        go_simp
        (try with_reducible rfl)
      simp only [Act.put, List.setIfInBounds_toArray, List.set_cons_zero, List.set_cons_succ]
      refine take_wanted (i := 3) (v := ?_) rfl (by kernel_rfl) (by kernel_rfl) (by kernel_rfl) (fun _ _ _ h => h) (by rfl) ?_ (by assumption) ?_
      rotate_left
      · intro w hSw
        (try dsimp only at hSw)
        go_simp
        (try with_reducible rfl)
      simp only [Act.put, List.setIfInBounds_toArray, List.set_cons_zero, List.set_cons_succ]
      refine take_wanted (i := 4) (v := ?_) rfl (by kernel_rfl) (by kernel_rfl) (by kernel_rfl) (fun _ _ _ h => h) (by rfl) ?_ (by assumption) ?_
      rotate_left
      · intro w hSw
        (try dsimp only at hSw)
        go_simp
        (try with_reducible rfl)
      simp only [Act.put, List.setIfInBounds_toArray, List.set_cons_zero, List.set_cons_succ]
      refine take_wanted (i := 5) (v := ?_) rfl (by kernel_rfl) (by kernel_rfl) (by kernel_rfl) (fun _ _ _ h => h) (by rfl) ?_ (by assumption) ?_
      rotate_left
      · intro w hSw
        (try dsimp only at hSw)
        go_simp
        (try with_reducible rfl)
      simp only [Act.put, List.setIfInBounds_toArray, List.set_cons_zero, List.set_cons_succ]
      refine take_wanted (i := 6) (v := ?_) rfl (by kernel_rfl) (by kernel_rfl) (by kernel_rfl) (fun _ _ _ h => h) (by rfl) ?_ (by assumption) ?_
      rotate_left
      · intro w hSw
        (try dsimp only at hSw)
        go_simp
        (try with_reducible rfl)
      simp only [Act.put, List.setIfInBounds_toArray, List.set_cons_zero, List.set_cons_succ]
      refine take_only (i := 7) (by kernel_rfl) rfl (by rfl) (fun K hK => ?_)
      go_simp
      go_at_call 47
      refine (rBytes_l f (ys.take k) (.slice ya k yc) sB _ HBD.out.2.1 (by rw [List.length_take]; omega) (readsR_take (HR3.out) hk) HRTK.out HSB).mono ?_
      rintro x w4 ⟨rfl, hb4⟩
      refine hK.out _ _ ?_ (fun hHeld => ?_)
      · exact ⟨below_keeps hb4 _ _ hHeld.1, below_keeps hb4 _ _ hHeld.2⟩
      clear hK K
      have HM4 := Lib.hid (HM3.out.below hb4)
      have HK4 := Lib.hid (HK3.out.trans (Kp.of_below hb4))
      have HG4 := Lib.hid (block_below HG3.out hb4)
      clear hb4 HM3 HK3 HG3 HR3
      refine take_only (i := 8) (by kernel_rfl) rfl (by rfl) (fun K hK => ?_)
      go_simp
      go_at_call 26
      refine (D.mAppend_l p room l1 temp sB e2 la _ HM4.out HI1.out.sorted HI1.out.many (by simp [temp]) (by omega) (by have := HI1.out.room; omega) HAP).mono ?_
      rintro x w5 ⟨rfl, hm5, hk5⟩
      refine hK.out _ _ ?_ (fun hHeld => ?_)
      · exact ⟨block_cell (HKS.out _ _ hk5 HG4.out) 0, block_cell (HKS.out _ _ hk5 HG4.out) 1⟩
      clear hK K
      have HM5 := Lib.hid hm5
      have HK5 := Lib.hid (HK4.out.trans hk5)
      clear hm5 hk5 HM4 HK4 HG4
      refine take_wanted (i := 9) (v := ?_) rfl (by kernel_rfl) (by kernel_rfl) (by kernel_rfl) (fun _ _ _ h => h) (by rfl) ?_ (by assumption) ?_
      rotate_left
      · intro w hSw
        (try dsimp only at hSw)
        go_simp
        (try with_reducible rfl)
      simp only [Act.put, List.setIfInBounds_toArray, List.set_cons_zero, List.set_cons_succ]
      refine wpAnyH_done (by kernel_rfl) ?_ _
      by_cases he : e2 = 0
      · subst he
        have hA := HAE.out
        rw [if_pos rfl] at hA
        obtain ⟨e3, l3, HSY⟩ : ∃ e3 l3, Hid (D.sync temp la = (e3, l3)) := ⟨_, _, Lib.hid rfl⟩
        rw [HSY.out] at hA
        have HRN := Lib.hid hA
        have HI3 : Hid (D.Inv room l3) := Lib.hid (by have := HI2.out.sync (n := temp); rw [HSY.out] at this; exact this)
        clear hA HAE
        go_wp2_with fail
        refine (D.mSync_l p room la temp e3 l3 w5 HM5.out HI2.out.sorted (by have := HI2.out.many; omega) (fun f hf => by have := data_le HI2.out hf; omega) HSY).mono ?_
        rintro x w6 ⟨rfl, hm6, hk6⟩
        have HM6 := Lib.hid hm6
        have HK6 := Lib.hid (HK5.out.trans hk6)
        clear hm6 hk6
        go_wp2_with fail
        refine (rName_l n w6).mono ?_
        rintro x w7 ⟨rfl, rfl⟩
        rw [HN.out]
        go_wp2_with fail
        refine (D.mRename_l p room l3 temp nm e l2 w7 HM6.out HI3.out.sorted HI3.out.many (by omega) HRN).mono ?_
        rintro x w8 ⟨rfl, hm8, hk8⟩
        have HM8 := Lib.hid hm8
        have HK8 := Lib.hid (HK6.out.trans hk8)
        clear hm8 hk8
        go_wp2
        go_ret
        exact ⟨rfl, HM8.out, HK8.out⟩
      · have hA := HAE.out
        rw [if_neg he] at hA
        have hei : ((e2 : Int) == 0) = false := beq_eq_false_iff_ne.2 (by omega)
        have hei2 : ¬ (e2 : Int) = 0 := by omega
        have hl1 : la = l1 := by have := append_err (room := room) (nm := temp) (s := sB) (l := l1) (by rw [HAP.out]; exact he); rw [HAP.out] at this; exact this
        have HQ : Hid (e2 = e ∧ l1 = l2) := Lib.hid ⟨congrArg Prod.fst hA, congrArg Prod.snd hA⟩
        subst hl1
        clear hA HAE
        obtain ⟨he3, he4⟩ := HQ.out
        subst he3
        subst he4
        clear HQ
        go_wp2_with fail
        refine (D.mDelete_l p room _ temp 6 _ w5 HM5.out HI2.out.sorted HI2.out.many HDD).mono ?_
        rintro x w6 ⟨rfl, hm6, hk6, -⟩
        have HM6 := Lib.hid hm6
        have HK6 := Lib.hid (HK5.out.trans (hk6.kp hlo))
        clear hm6 hk6
        go_wp2
        go_ret
        exact ⟨rfl, HM6.out, HK6.out⟩
  · have HE : Hid (e = e1 ∧ l2 = l) := Lib.hid (by
      have h := HA.out
      unfold cutD at h
      rw [HN.out, HL.out] at h
      cases e1 with
      | zero => exact absurd rfl he1
      | succ k => cases h; exact ⟨rfl, rfl⟩)
    obtain ⟨rfl, rfl⟩ := HE.out
    have hei : ((e : Int) == 0) = false := beq_eq_false_iff_ne.2 (by omega)
    have hei2 : ¬ (e : Int) = 0 := by omega
    clear HA HE
    go_wp2
    go_ret
    exact ⟨rfl, HM.out.below HBL.out, Kp.of_below HBL.out⟩
end Go.Proofs.YtmfhipjceeijmaaGreatDoor.G

/-
  A disk and the document's side by side: what the law's helper alike tells.
-/
namespace Go.Proofs.YtmfhipjceeijmaaGreatDoor.G
open Go.RowKit
open D (dP MAt F)
attribute [local go_sem] ext_Bd ext_Bl ext_Bt toList_B add_B size_B get_Bt

theorem blkA {w : World} {h : Nat} {cs : Array Value} {t : TypeId} (ho : w.heap[h]? = some (.cells cs t (0, 0))) (j : Nat) : w.cell? ⟨h, j, none⟩ = cs[j]? := by simp [World.cell?, ho]
theorem keepsA {w w' : World} (hb : Below w.heap.size w w') (p : Addr) (u : Value) (h : w.cell? p = some u) : w'.cell? p = some u := D.keeps hb p u h
theorem quietA {w w' : World} (h : sQuiet w w') : Below w.heap.size w w' := below_quiet (Below.refl _ w) h
theorem MAt_lt {w : World} {bs p : Nat} {room : Int} {l : List F} (h : MAt bs w p room l) : p < w.heap.size := by
  obtain ⟨_, v, hp, _⟩ := h
  exact (Array.getElem?_eq_some_iff.1 hp).1
/-- The document's disk stays while blocks are written that are none of its own. -/
theorem MAt_but {w w' : World} {bs p : Nat} {room : Int} {l : List F} {S : Nat → Prop} (h : MAt bs w p room l) (hb : D.But S w w') (hp : ¬ S p) (hS : ∀ k c fr, S k → w.heap[k]? ≠ some (.cells c 114 fr)) : MAt bs w' p room l := by
  have hlt := MAt_lt h
  obtain ⟨h1, v, hp2, hr⟩ := h
  refine ⟨h1, v, by rw [hb.block p hlt hp]; exact hp2, D.row_keep hr fun k c hk => ?_⟩
  rw [hb.block k (Array.getElem?_eq_some_iff.1 hk).1 fun h2 => hS k c _ h2 hk]
  exact hk
theorem Kp_low {w wr w' : World} {bs p : Nat} (hbs : bs = w.heap.size) (h : Below w.heap.size w wr) (hk : D.Kp bs p wr w') : Below w.heap.size w w' :=
  ⟨hk.os.trans h.os, hk.tape.trans h.tape, hk.output.trans h.output, Nat.le_trans h.size hk.size, fun k hlt => by
    have hlt2 : k < wr.heap.size := Nat.lt_of_lt_of_le hlt h.size
    obtain ⟨o, ho⟩ : ∃ o, wr.heap[k]? = some o := ⟨_, Array.getElem?_eq_getElem hlt2⟩
    rw [hk.block k o ho (.inl (by omega)), ← ho, h.block k hlt]⟩
theorem DC_kp (C : D.DC) {w w' : World} {bs p mp room : Nat} {l : List F} {S : Nat → Prop} (h : C.At bs w p room l S) (hk : D.Kp bs mp w w') (hm : ¬ S mp) : C.At bs w' p room l S :=
  C.keep h hk.size fun k hs => by
    obtain ⟨o, ho⟩ : ∃ o, w.heap[k]? = some o := ⟨_, Array.getElem?_eq_getElem (C.low h hs).2⟩
    rw [hk.block k o ho (.inr ⟨fun e => hm (e ▸ hs), fun c fr e => C.typ h hs (by rw [ho, e])⟩), ho]
theorem listA {w : World} {bs : Nat} {v : Value} {n : Nat} {l : List F} (h : w.ownsRow bs 9 1 v n (strCells (l.map F.name))) : Reads w v (strCells (l.map F.name)) := reads_own h
abbrev P2A (w1 : World) (a b : Addr) (v u : Value) (w : World) : Prop := w.cell? a = some v ∧ w.cell? b = some u ∧ KeptB w1 w
theorem P2A_drew {w1 w : World} {a b : Addr} {v u : Value} (h : P2A w1 a b v u w) : P2A w1 a b v u w.drew := ⟨h.1, h.2.1, keptB_drew h.2.2⟩
theorem P2A_call {w1 w w2 : World} {a b : Addr} {v u : Value} (h : P2A w1 a b v u w) (hb : Below w.heap.size w w2) : P2A w1 a b v u w2 := ⟨keepsA hb _ _ h.1, keepsA hb _ _ h.2.1, keptB_call h.2.2 hb⟩
abbrev P4A (w1 : World) (a b c d : Addr) (v u x y : Value) (w : World) : Prop := w.cell? a = some v ∧ w.cell? b = some u ∧ w.cell? c = some x ∧ w.cell? d = some y ∧ KeptB w1 w
theorem P4A_drew {w1 w : World} {a b c d : Addr} {v u x y : Value} (h : P4A w1 a b c d v u x y w) : P4A w1 a b c d v u x y w.drew := ⟨h.1, h.2.1, h.2.2.1, h.2.2.2.1, keptB_drew h.2.2.2.2⟩
theorem P4A_call {w1 w w2 : World} {a b c d : Addr} {v u x y : Value} (h : P4A w1 a b c d v u x y w) (hb : Below w.heap.size w w2) : P4A w1 a b c d v u x y w2 := ⟨keepsA hb _ _ h.1, keepsA hb _ _ h.2.1, keepsA hb _ _ h.2.2.1, keepsA hb _ _ h.2.2.2.1, keptB_call h.2.2.2.2 hb⟩
def Names (l : List F) : Prop := ∀ f ∈ l, f.name.length ≤ 1000
theorem Kept_trans {a b c : World} (h : KeptB a b) (k : KeptB b c) : KeptB a c := Below.trans h (Below.mono k h.size)
set_option maxHeartbeats 16000000 in
set_option maxRecDepth 100000 in
theorem alike9_l (C : D.DC) {bs : Nat} (p mp room : Nat) (l : List F) (S : Nat → Prop) (w : World) (h : C.At bs w p room l S) (hm : MAt bs w mp (room : Int) l) (hi : D.Inv room l) (hro : room ≤ 1073741824) (hn : Names l) :
    Calls Tryz.prog 9 #[.agg #[dP p, dP mp]] w fun x w' => x = .returned (.bool true) ∧ Below w.heap.size w w' := by
  have HB0 := Lib.hid ((Below.refl w.heap.size w).alloc (Nat.le_refl _) (.cells #[dP p, dP mp] 28))
  have HC0 := Lib.hid (World.alloc_heap_new w (.cells #[dP p, dP mp] 28))
  have HD := Lib.hid (C.below h HB0.out)
  have HM := Lib.hid (hm.below HB0.out)
  have HI := Lib.hid hi
  have HN := Lib.hid hn
  have h40 := hi.many
  obtain ⟨u, HU⟩ : ∃ u, Hid (D.used l = u) := ⟨_, Lib.hid rfl⟩
  have hu : u ≤ 1073741824 := by have := hi.room; have := HU.out; omega
  obtain ⟨g, hge⟩ : ∃ g, w.heap.size = g := ⟨_, rfl⟩
  rw [hge] at HC0
  have HGE := Lib.hid hge
  clear h hm hi hn hge
  go_enter Tryz.func9, Tryz.ntmps9
  go_upto_region 1 with (fail)
  rw [HGE.out]
  generalize w.alloc (.cells #[dP p, dP mp] 28) = W at *
  have k0 := blkA HC0.out 0
  have k1 := blkA HC0.out 1
  simp only [List.getElem?_toArray, List.getElem?_cons_zero, List.getElem?_cons_succ] at k0 k1
  have HK0 := Lib.hid (And.intro k0 k1)
  go_wp2_with fail
  refine (C.list HD.out HI.out hro).mono ?_
  rintro x w1 ⟨⟨v1, rfl, hr1⟩, hb1⟩
  have HR1 := Lib.hid hr1
  have HB1 := Lib.hid hb1
  obtain ⟨a1, c1, hv1, -⟩ := hr1
  rw [strCells_len, List.length_map] at hv1
  subst hv1
  clear hb1 k0 k1
  have k1 := keepsA HB1.out _ _ HK0.out.2
  go_wp2_with fail
  refine (D.mList_l mp room l _ (HM.out.below HB1.out) (by omega)).mono ?_
  rintro x w2 ⟨v2, rfl, ho2, hb2⟩
  have HR2 := Lib.hid (listA ho2)
  have HR1b := Lib.hid (reads_below HR1.out hb2)
  have HB2 := Lib.hid (HB1.out.trans (hb2.mono HB1.out.size))
  obtain ⟨a2, c2, hv2, -⟩ := listA ho2
  rw [strCells_len, List.length_map] at hv2
  subst hv2
  clear hb2 ho2 HR1 HB1 k1
  have HUD : Hid (∀ V, KeptB w2 V → Calls Tryz.prog 34 #[dP p] V fun x w' => x = .returned (.int .i64 (u : Int)) ∧ Below V.heap.size V w') := Lib.hid fun V hV => by
    have := C.used (C.below HD.out (HB2.out.trans (Below.mono hV HB2.out.size))) HI.out hro
    rw [HU.out] at this
    exact this
  have HUM : Hid (∀ V, KeptB w2 V → Calls Tryz.prog 35 #[dP mp] V fun x w' => x = .returned (.int .i64 (u : Int)) ∧ Below V.heap.size V w') := Lib.hid fun V hV =>
    (D.mUsed_l mp room l u V (HM.out.below (HB2.out.trans (Below.mono hV HB2.out.size))) (by omega) (by have := HU.out; omega) HU).mono fun _ _ ⟨a, b⟩ => ⟨a, quietA b⟩
  go_upto_region 3 with (fail)
  have hS : P2A w2 ⟨g, 0, none⟩ ⟨g, 1, none⟩ (dP p) (dP mp) w2 := ⟨keepsA HB2.out _ _ HK0.out.1, keepsA HB2.out _ _ HK0.out.2, Below.refl _ _⟩
  refine wp_region_held_drew (S := P2A w2 ⟨g, 0, none⟩ ⟨g, 1, none⟩ (dP p) (dP mp)) (by kernel_rfl) ?_ (fun hHeld => ?_)
  · exact P2A_drew hS
  refine take_wanted (i := 0) (v := ?_) rfl (by kernel_rfl) (by kernel_rfl) (by kernel_rfl) (fun _ _ _ h => h) (by rfl) ?_ (by assumption) ?_
  rotate_left
  · intro w hSw
    (try dsimp only at hSw)
    go_simp
    (try with_reducible rfl)
  simp only [Act.put, List.setIfInBounds_toArray, List.set_cons_zero, List.set_cons_succ]
  refine take_wanted (i := 1) (v := ?_) rfl (by kernel_rfl) (by kernel_rfl) (by kernel_rfl) (fun _ _ _ h => h) (by rfl) ?_ (by assumption) ?_
  rotate_left
  · intro w hSw
    (try dsimp only at hSw)
    go_simp
    (try with_reducible rfl)
  simp only [Act.put, List.setIfInBounds_toArray, List.set_cons_zero, List.set_cons_succ]
  refine take_wanted (i := 2) (v := ?_) rfl (by kernel_rfl) (by kernel_rfl) (by kernel_rfl) (fun _ _ _ h => h) (by rfl) ?_ (by assumption) ?_
  rotate_left
  · intro w hSw
    (try dsimp only at hSw)
    go_simp
    (try with_reducible rfl)
  simp only [Act.put, List.setIfInBounds_toArray, List.set_cons_zero, List.set_cons_succ]
  refine take_wanted (i := 3) (v := ?_) rfl (by kernel_rfl) (by kernel_rfl) (by kernel_rfl) (fun _ _ _ h => h) (by rfl) ?_ (by assumption) ?_
  rotate_left
  · intro w hSw
    (try dsimp only at hSw)
    go_simp
    (try with_reducible rfl)
  simp only [Act.put, List.setIfInBounds_toArray, List.set_cons_zero, List.set_cons_succ]
  refine take_wanted (i := 4) (v := .bool false) rfl (by kernel_rfl) (by kernel_rfl) (by kernel_rfl) (fun _ _ _ h => h) (by rfl) ?_ (by assumption) ?_
  · intro w hSw
    (try dsimp only at hSw)
    go_simp
    try simp
  simp only [Act.put, List.setIfInBounds_toArray, List.set_cons_zero, List.set_cons_succ]
  refine take_wanted (i := 5) (v := ?_) rfl (by kernel_rfl) (by kernel_rfl) (by kernel_rfl) (fun _ _ _ h => h) (by rfl) ?_ (by assumption) ?_
  rotate_left
  · intro w hSw
    (try dsimp only at hSw)
    go_simp
    (try with_reducible rfl)
  simp only [Act.put, List.setIfInBounds_toArray, List.set_cons_zero, List.set_cons_succ]
  refine take_wanted (i := 6) (v := ?_) rfl (by kernel_rfl) (by kernel_rfl) (by kernel_rfl) (fun _ _ _ h => h) (by rfl) ?_ (by assumption) ?_
  rotate_left
  · intro w hSw
    (try dsimp only at hSw)
    go_simp
    (try with_reducible rfl)
  simp only [Act.put, List.setIfInBounds_toArray, List.set_cons_zero, List.set_cons_succ]
  refine take_wanted (i := 7) (v := ?_) rfl (by kernel_rfl) (by kernel_rfl) (by kernel_rfl) (fun _ _ _ h => h) (by rfl) ?_ (by assumption) ?_
  rotate_left
  · intro w hSw
    (try dsimp only at hSw)
    go_simp
    (try with_reducible rfl)
  simp only [Act.put, List.setIfInBounds_toArray, List.set_cons_zero, List.set_cons_succ]
  refine take_wanted (i := 9) (v := ?_) rfl (by kernel_rfl) (by kernel_rfl) (by kernel_rfl) (fun _ _ _ h => h) (by rfl) ?_ (by assumption) ?_
  rotate_left
  · intro w hSw
    (try dsimp only at hSw)
    go_simp
    (try with_reducible rfl)
  simp only [Act.put, List.setIfInBounds_toArray, List.set_cons_zero, List.set_cons_succ]
  refine take_wanted (i := 10) (v := ?_) rfl (by kernel_rfl) (by kernel_rfl) (by kernel_rfl) (fun _ _ _ h => h) (by rfl) ?_ (by assumption) ?_
  rotate_left
  · intro w hSw
    (try dsimp only at hSw)
    go_simp
    (try with_reducible rfl)
  simp only [Act.put, List.setIfInBounds_toArray, List.set_cons_zero, List.set_cons_succ]
  refine take_only (i := 8) (by kernel_rfl) rfl (by rfl) (fun K hK => ?_)
  go_simp
  go_at_call 34
  refine (HUD.out _ hHeld.2.2).mono ?_
  rintro x w3 ⟨rfl, hb3⟩
  refine hK.out _ _ ?_ (fun hHeld => ?_)
  · exact P2A_call hHeld hb3
  clear hK K
  refine take_only (i := 11) (by kernel_rfl) rfl (by rfl) (fun K hK => ?_)
  go_simp
  go_at_call 35
  refine (HUM.out _ hHeld.2.2).mono ?_
  rintro x w4 ⟨rfl, hb3b⟩
  refine hK.out _ _ ?_ (fun hHeld => ?_)
  · exact P2A_call hHeld hb3b
  clear hK K
  refine take_wanted (i := 12) (v := .bool false) rfl (by kernel_rfl) (by kernel_rfl) (by kernel_rfl) (fun _ _ _ h => h) (by rfl) ?_ (by assumption) ?_
  · intro w hSw
    (try dsimp only at hSw)
    go_simp
    try simp
  simp only [Act.put, List.setIfInBounds_toArray, List.set_cons_zero, List.set_cons_succ]
  refine take_wanted (i := 13) (v := ?_) rfl (by kernel_rfl) (by kernel_rfl) (by kernel_rfl) (fun _ _ _ h => h) (by rfl) ?_ (by assumption) ?_
  rotate_left
  · intro w hSw
    (try dsimp only at hSw)
    go_simp
    (try with_reducible rfl)
  simp only [Act.put, List.setIfInBounds_toArray, List.set_cons_zero, List.set_cons_succ]
  refine wpAnyH_done (by kernel_rfl) ?_ _
  have HB4k := Lib.hid hHeld.2.2
  clear hHeld hS
  have HB4 := Lib.hid (HB2.out.trans (Below.mono HB4k.out HB2.out.size))
  have HR1d := Lib.hid (reads_below HR1b.out HB4k.out)
  have HR2d := Lib.hid (reads_below HR2.out HB4k.out)
  clear HR1b HR2 HB2 HUD HUM HB4k
  go_wp2
  go_loopw [5] (fun i wr => ∃ j : Nat, i = .int .i64 j ∧ j ≤ l.length ∧ Below w4.heap.size w4 wr) (fun i _ => l.length - (intOf i).toNat)
  case atStart => exact ⟨0, rfl, Nat.zero_le _, by first | exact Below.refl _ _ | exact (Below.refl _ w4).drew⟩
  case round =>
    obtain ⟨j, rfl, hj, hbr⟩ := hrel
    have HBR := Lib.hid hbr
    clear hbr
    by_cases hlt : j < l.length
    · have hj1 : (j : Int) < (l.length : Int) := by omega
      obtain ⟨_, _, hv, hx⟩ := HR1d.out
      rw [strCells_len, List.length_map] at hv hx
      cases hv
      obtain ⟨b1, o1, hab, g1⟩ := hx j hlt
      subst hab
      obtain ⟨_, _, hv, hx2⟩ := HR2d.out
      rw [strCells_len, List.length_map] at hv hx2
      cases hv
      obtain ⟨b2, o2, hab, g2⟩ := hx2 j hlt
      subst hab
      have e0 : (strCells (l.map F.name))[j]? = some (.string (B l[j].name)) := by simp [strCells, hlt]
      rw [e0] at g1 g2
      have G1 := Lib.hid g1
      have G2 := Lib.hid g2
      have HFD := Lib.hid (D.find_mem HI.out.sorted (List.getElem_mem hlt))
      have hnl := HN.out _ (List.getElem_mem hlt)
      clear g1 g2 e0 hx hx2
      generalize l[j] = f at G1 G2 HFD hnl
      have HRE : Hid (D.read f.name l = (f.data, 0)) := Lib.hid (by unfold D.read; rw [HFD.out])
      have HSY : Hid (D.synced f.name l = f.syn) := Lib.hid (by unfold D.synced; rw [HFD.out])
      clear HFD
      have HBW := Lib.hid (HB4.out.trans (Below.mono HBR.out HB4.out.size))
      have HRC : Hid (∀ V, KeptB wr V → Calls Tryz.prog 36 #[dP p, .string (B f.name)] V fun x w' => x = .returned (.tuple #[.string (B f.data), .int .i64 ((0 : Nat) : Int)]) ∧ Below V.heap.size V w') := Lib.hid fun V hV => C.read f.name f.data 0 (C.below HD.out (HBW.out.trans (Below.mono hV HBW.out.size))) HI.out hro (by omega) HRE.out
      have HRM : Hid (∀ V, KeptB wr V → Calls Tryz.prog 37 #[dP mp, .string (B f.name)] V fun x w' => x = .returned (.tuple #[.string (B f.data), .int .i64 ((0 : Nat) : Int)]) ∧ Below V.heap.size V w') := Lib.hid fun V hV => (D.mRead_l mp room l f.name f.data 0 V (HM.out.below (HBW.out.trans (Below.mono hV HBW.out.size))) HI.out.sorted (by omega) HRE).mono fun _ _ ⟨a, b⟩ => ⟨a, quietA b⟩
      have HSC : Hid (∀ V, KeptB wr V → Calls Tryz.prog 38 #[dP p, .string (B f.name)] V fun x w' => x = .returned (.int .i64 (f.syn : Int)) ∧ Below V.heap.size V w') := Lib.hid fun V hV => C.synced f.name f.syn (C.below HD.out (HBW.out.trans (Below.mono hV HBW.out.size))) HI.out hro (by omega) HSY.out
      have HSM : Hid (∀ V, KeptB wr V → Calls Tryz.prog 39 #[dP mp, .string (B f.name)] V fun x w' => x = .returned (.int .i64 (f.syn : Int)) ∧ Below V.heap.size V w') := Lib.hid fun V hV => (D.mSynced_l mp room l f.name f.syn V (HM.out.below (HBW.out.trans (Below.mono hV HBW.out.size))) HI.out.sorted (by omega) HSY).mono fun _ _ ⟨a, b⟩ => ⟨a, quietA b⟩
      have hS4 : P4A wr ⟨g, 0, none⟩ ⟨g, 1, none⟩ ⟨b1, o1 + j, none⟩ ⟨b2, o2 + j, none⟩ (dP p) (dP mp) (.string (B f.name)) (.string (B f.name)) wr := ⟨keepsA HBW.out _ _ HK0.out.1, keepsA HBW.out _ _ HK0.out.2, keepsA HBR.out _ _ G1.out, keepsA HBR.out _ _ G2.out, Below.refl _ _⟩
      clear HRE HSY G1 G2
      go_upto_region 8 with (fail)
      unfold P4A at hS4
      go_region_held3 (fun w' => w'.cell? ⟨g, 0, none⟩ = some (dP p) ∧ w'.cell? ⟨g, 1, none⟩ = some (dP mp) ∧ w'.cell? ⟨b1, o1 + j, none⟩ = some (.string (B f.name)) ∧ w'.cell? ⟨b2, o2 + j, none⟩ = some (.string (B f.name)) ∧ KeptB wr w')
        (first | assumption | exact P4A_drew (by assumption) | exact P4A_call (by assumption) (by assumption))
        (first | (go_at_call 36; with_reducible refine (HRC.out _ (And.right (And.right (And.right (And.right (by assumption)))))).mono ?_; rintro x w5 ⟨rfl, hb5⟩))
      rename_i hHeld8
      have HH8 := Lib.hid hHeld8
      clear hHeld8 hS4
      go_upto_region 9 with (fail)
      have hS5 := HH8.out
      go_region_held3 (fun w' => w'.cell? ⟨g, 0, none⟩ = some (dP p) ∧ w'.cell? ⟨g, 1, none⟩ = some (dP mp) ∧ w'.cell? ⟨b1, o1 + j, none⟩ = some (.string (B f.name)) ∧ w'.cell? ⟨b2, o2 + j, none⟩ = some (.string (B f.name)) ∧ KeptB wr w')
        (first | assumption | exact P4A_drew (by assumption) | exact P4A_call (by assumption) (by assumption))
        (first | (go_at_call 37; with_reducible refine (HRM.out _ (And.right (And.right (And.right (And.right (by assumption)))))).mono ?_; rintro x w6 ⟨rfl, hb6⟩))
      rename_i hHeld9
      have HH9 := Lib.hid hHeld9
      clear hHeld9 hS5 HH8
      go_upto_region 10 with (fail)
      have hS := HH9.out
      refine wp_region_held_drew (S := P4A wr ⟨g, 0, none⟩ ⟨g, 1, none⟩ ⟨b1, o1 + j, none⟩ ⟨b2, o2 + j, none⟩ (dP p) (dP mp) (.string (B f.name)) (.string (B f.name))) (by kernel_rfl) ?_ (fun hHeld => ?_)
      · exact P4A_drew hS
      refine take_wanted (i := 0) (v := ?_) rfl (by kernel_rfl) (by kernel_rfl) (by kernel_rfl) (fun _ _ _ h => h) (by rfl) ?_ (by assumption) ?_
      rotate_left
      · intro w hSw
        (try dsimp only at hSw)
        go_simp
        (try with_reducible rfl)
      simp only [Act.put, List.setIfInBounds_toArray, List.set_cons_zero, List.set_cons_succ]
      refine take_wanted (i := 1) (v := ?_) rfl (by kernel_rfl) (by kernel_rfl) (by kernel_rfl) (fun _ _ _ h => h) (by rfl) ?_ (by assumption) ?_
      rotate_left
      · intro w hSw
        (try dsimp only at hSw)
        go_simp
        (try with_reducible rfl)
      simp only [Act.put, List.setIfInBounds_toArray, List.set_cons_zero, List.set_cons_succ]
      refine take_wanted (i := 2) (v := ?_) rfl (by kernel_rfl) (by kernel_rfl) (by kernel_rfl) (fun _ _ _ h => h) (by rfl) ?_ (by assumption) ?_
      rotate_left
      · intro w hSw
        (try dsimp only at hSw)
        go_simp
        (try with_reducible rfl)
      simp only [Act.put, List.setIfInBounds_toArray, List.set_cons_zero, List.set_cons_succ]
      refine take_wanted (i := 3) (v := ?_) rfl (by kernel_rfl) (by kernel_rfl) (by kernel_rfl) (fun _ _ _ h => h) (by rfl) ?_ (by assumption) ?_
      rotate_left
      · intro w hSw
        (try dsimp only at hSw)
        go_simp
        (try with_reducible rfl)
      simp only [Act.put, List.setIfInBounds_toArray, List.set_cons_zero, List.set_cons_succ]
      refine take_wanted (i := 4) (v := ?_) rfl (by kernel_rfl) (by kernel_rfl) (by kernel_rfl) (fun _ _ _ h => h) (by rfl) ?_ (by assumption) ?_
      rotate_left
      · intro w hSw
        (try dsimp only at hSw)
        go_simp
        (try with_reducible rfl)
      simp only [Act.put, List.setIfInBounds_toArray, List.set_cons_zero, List.set_cons_succ]
      refine take_wanted (i := 5) (v := ?_) rfl (by kernel_rfl) (by kernel_rfl) (by kernel_rfl) (fun _ _ _ h => h) (by rfl) ?_ (by assumption) ?_
      rotate_left
      · intro w hSw
        (try dsimp only at hSw)
        go_simp
        (try with_reducible rfl)
      simp only [Act.put, List.setIfInBounds_toArray, List.set_cons_zero, List.set_cons_succ]
      refine take_wanted (i := 6) (v := ?_) rfl (by kernel_rfl) (by kernel_rfl) (by kernel_rfl) (fun _ _ _ h => h) (by rfl) ?_ (by assumption) ?_
      rotate_left
      · intro w hSw
        (try dsimp only at hSw)
        go_simp
        (try with_reducible rfl)
      simp only [Act.put, List.setIfInBounds_toArray, List.set_cons_zero, List.set_cons_succ]
      refine take_wanted (i := 7) (v := ?_) rfl (by kernel_rfl) (by kernel_rfl) (by kernel_rfl) (fun _ _ _ h => h) (by rfl) ?_ (by assumption) ?_
      rotate_left
      · intro w hSw
        (try dsimp only at hSw)
        go_simp
        (try with_reducible rfl)
      simp only [Act.put, List.setIfInBounds_toArray, List.set_cons_zero, List.set_cons_succ]
      refine take_wanted (i := 8) (v := .bool false) rfl (by kernel_rfl) (by kernel_rfl) (by kernel_rfl) (fun _ _ _ h => h) (by rfl) ?_ (by assumption) ?_
      · intro w hSw
        (try dsimp only at hSw)
        go_simp
        try simp
      simp only [Act.put, List.setIfInBounds_toArray, List.set_cons_zero, List.set_cons_succ]
      refine take_wanted (i := 9) (v := ?_) rfl (by kernel_rfl) (by kernel_rfl) (by kernel_rfl) (fun _ _ _ h => h) (by rfl) ?_ (by assumption) ?_
      rotate_left
      · intro w hSw
        (try dsimp only at hSw)
        go_simp
        (try with_reducible rfl)
      simp only [Act.put, List.setIfInBounds_toArray, List.set_cons_zero, List.set_cons_succ]
      refine take_wanted (i := 10) (v := ?_) rfl (by kernel_rfl) (by kernel_rfl) (by kernel_rfl) (fun _ _ _ h => h) (by rfl) ?_ (by assumption) ?_
      rotate_left
      · intro w hSw
        (try dsimp only at hSw)
        go_simp
        (try with_reducible rfl)
      simp only [Act.put, List.setIfInBounds_toArray, List.set_cons_zero, List.set_cons_succ]
      refine take_wanted (i := 11) (v := ?_) rfl (by kernel_rfl) (by kernel_rfl) (by kernel_rfl) (fun _ _ _ h => h) (by rfl) ?_ (by assumption) ?_
      rotate_left
      · intro w hSw
        (try dsimp only at hSw)
        go_simp
        (try with_reducible rfl)
      simp only [Act.put, List.setIfInBounds_toArray, List.set_cons_zero, List.set_cons_succ]
      refine take_wanted (i := 12) (v := .bool false) rfl (by kernel_rfl) (by kernel_rfl) (by kernel_rfl) (fun _ _ _ h => h) (by rfl) ?_ (by assumption) ?_
      · intro w hSw
        (try dsimp only at hSw)
        go_simp
        try simp
      simp only [Act.put, List.setIfInBounds_toArray, List.set_cons_zero, List.set_cons_succ]
      refine take_wanted (i := 13) (v := ?_) rfl (by kernel_rfl) (by kernel_rfl) (by kernel_rfl) (fun _ _ _ h => h) (by rfl) ?_ (by assumption) ?_
      rotate_left
      · intro w hSw
        (try dsimp only at hSw)
        go_simp
        (try with_reducible rfl)
      simp only [Act.put, List.setIfInBounds_toArray, List.set_cons_zero, List.set_cons_succ]
      refine take_wanted (i := 14) (v := ?_) rfl (by kernel_rfl) (by kernel_rfl) (by kernel_rfl) (fun _ _ _ h => h) (by rfl) ?_ (by assumption) ?_
      rotate_left
      · intro w hSw
        (try dsimp only at hSw)
        go_simp
        (try with_reducible rfl)
      simp only [Act.put, List.setIfInBounds_toArray, List.set_cons_zero, List.set_cons_succ]
      refine take_wanted (i := 15) (v := ?_) rfl (by kernel_rfl) (by kernel_rfl) (by kernel_rfl) (fun _ _ _ h => h) (by rfl) ?_ (by assumption) ?_
      rotate_left
      · intro w hSw
        (try dsimp only at hSw)
        go_simp
        (try with_reducible rfl)
      simp only [Act.put, List.setIfInBounds_toArray, List.set_cons_zero, List.set_cons_succ]
      refine take_wanted (i := 16) (v := ?_) rfl (by kernel_rfl) (by kernel_rfl) (by kernel_rfl) (fun _ _ _ h => h) (by rfl) ?_ (by assumption) ?_
      rotate_left
      · intro w hSw
        (try dsimp only at hSw)
        go_simp
        (try with_reducible rfl)
      simp only [Act.put, List.setIfInBounds_toArray, List.set_cons_zero, List.set_cons_succ]
      refine take_wanted (i := 17) (v := ?_) rfl (by kernel_rfl) (by kernel_rfl) (by kernel_rfl) (fun _ _ _ h => h) (by rfl) ?_ (by assumption) ?_
      rotate_left
      · intro w hSw
        (try dsimp only at hSw)
        go_simp
        (try with_reducible rfl)
      simp only [Act.put, List.setIfInBounds_toArray, List.set_cons_zero, List.set_cons_succ]
      refine take_wanted (i := 18) (v := ?_) rfl (by kernel_rfl) (by kernel_rfl) (by kernel_rfl) (fun _ _ _ h => h) (by rfl) ?_ (by assumption) ?_
      rotate_left
      · intro w hSw
        (try dsimp only at hSw)
        go_simp
        (try with_reducible rfl)
      simp only [Act.put, List.setIfInBounds_toArray, List.set_cons_zero, List.set_cons_succ]
      refine take_wanted (i := 19) (v := ?_) rfl (by kernel_rfl) (by kernel_rfl) (by kernel_rfl) (fun _ _ _ h => h) (by rfl) ?_ (by assumption) ?_
      rotate_left
      · intro w hSw
        (try dsimp only at hSw)
        go_simp
        (try with_reducible rfl)
      simp only [Act.put, List.setIfInBounds_toArray, List.set_cons_zero, List.set_cons_succ]
      refine take_wanted (i := 20) (v := ?_) rfl (by kernel_rfl) (by kernel_rfl) (by kernel_rfl) (fun _ _ _ h => h) (by rfl) ?_ (by assumption) ?_
      rotate_left
      · intro w hSw
        (try dsimp only at hSw)
        go_simp
        (try with_reducible rfl)
      simp only [Act.put, List.setIfInBounds_toArray, List.set_cons_zero, List.set_cons_succ]
      refine take_wanted (i := 22) (v := ?_) rfl (by kernel_rfl) (by kernel_rfl) (by kernel_rfl) (fun _ _ _ h => h) (by rfl) ?_ (by assumption) ?_
      rotate_left
      · intro w hSw
        (try dsimp only at hSw)
        go_simp
        (try with_reducible rfl)
      simp only [Act.put, List.setIfInBounds_toArray, List.set_cons_zero, List.set_cons_succ]
      refine take_wanted (i := 23) (v := ?_) rfl (by kernel_rfl) (by kernel_rfl) (by kernel_rfl) (fun _ _ _ h => h) (by rfl) ?_ (by assumption) ?_
      rotate_left
      · intro w hSw
        (try dsimp only at hSw)
        go_simp
        (try with_reducible rfl)
      simp only [Act.put, List.setIfInBounds_toArray, List.set_cons_zero, List.set_cons_succ]
      refine take_wanted (i := 24) (v := ?_) rfl (by kernel_rfl) (by kernel_rfl) (by kernel_rfl) (fun _ _ _ h => h) (by rfl) ?_ (by assumption) ?_
      rotate_left
      · intro w hSw
        (try dsimp only at hSw)
        go_simp
        (try with_reducible rfl)
      simp only [Act.put, List.setIfInBounds_toArray, List.set_cons_zero, List.set_cons_succ]
      refine take_wanted (i := 25) (v := ?_) rfl (by kernel_rfl) (by kernel_rfl) (by kernel_rfl) (fun _ _ _ h => h) (by rfl) ?_ (by assumption) ?_
      rotate_left
      · intro w hSw
        (try dsimp only at hSw)
        go_simp
        (try with_reducible rfl)
      simp only [Act.put, List.setIfInBounds_toArray, List.set_cons_zero, List.set_cons_succ]
      refine take_wanted (i := 26) (v := ?_) rfl (by kernel_rfl) (by kernel_rfl) (by kernel_rfl) (fun _ _ _ h => h) (by rfl) ?_ (by assumption) ?_
      rotate_left
      · intro w hSw
        (try dsimp only at hSw)
        go_simp
        (try with_reducible rfl)
      simp only [Act.put, List.setIfInBounds_toArray, List.set_cons_zero, List.set_cons_succ]
      refine take_wanted (i := 27) (v := ?_) rfl (by kernel_rfl) (by kernel_rfl) (by kernel_rfl) (fun _ _ _ h => h) (by rfl) ?_ (by assumption) ?_
      rotate_left
      · intro w hSw
        (try dsimp only at hSw)
        go_simp
        (try with_reducible rfl)
      simp only [Act.put, List.setIfInBounds_toArray, List.set_cons_zero, List.set_cons_succ]
      refine take_only (i := 21) (by kernel_rfl) rfl (by rfl) (fun K hK => ?_)
      go_simp
      go_at_call 38
      refine (HSC.out _ hHeld.2.2.2.2).mono ?_
      rintro x w9 ⟨rfl, hb9⟩
      refine hK.out _ _ ?_ (fun hHeld => ?_)
      · exact P4A_call hHeld hb9
      clear hK K
      refine take_only (i := 28) (by kernel_rfl) rfl (by rfl) (fun K hK => ?_)
      go_simp
      go_at_call 39
      refine (HSM.out _ hHeld.2.2.2.2).mono ?_
      rintro x w10 ⟨rfl, hb10⟩
      refine hK.out _ _ ?_ (fun hHeld => ?_)
      · exact P4A_call hHeld hb10
      clear hK K
      refine take_wanted (i := 29) (v := .bool false) rfl (by kernel_rfl) (by kernel_rfl) (by kernel_rfl) (fun _ _ _ h => h) (by rfl) ?_ (by assumption) ?_
      · intro w hSw
        (try dsimp only at hSw)
        go_simp
        try simp
      simp only [Act.put, List.setIfInBounds_toArray, List.set_cons_zero, List.set_cons_succ]
      refine take_wanted (i := 30) (v := ?_) rfl (by kernel_rfl) (by kernel_rfl) (by kernel_rfl) (fun _ _ _ h => h) (by rfl) ?_ (by assumption) ?_
      rotate_left
      · intro w hSw
        (try dsimp only at hSw)
        go_simp
        (try with_reducible rfl)
      simp only [Act.put, List.setIfInBounds_toArray, List.set_cons_zero, List.set_cons_succ]
      refine wpAnyH_done (by kernel_rfl) ?_ _
      have HB7 := Lib.hid (Below.trans HBR.out (Below.mono hHeld.2.2.2.2 HBR.out.size))
      clear hHeld hS
      go_wp2
      go_roundw
      case rel => exact ⟨j + 1, by go_num, by omega, HB7.out⟩
      case measure => simp [intOf]; omega
    · have hj1 : ¬ (j : Int) < (l.length : Int) := by omega
      have HB9 := Lib.hid (HB0.out.trans (Below.mono (HB4.out.trans (Below.mono HBR.out HB4.out.size)) HB0.out.size))
      go_wp2
      go_ret
      exact ⟨rfl, HB9.out⟩
end Go.Proofs.YtmfhipjceeijmaaGreatDoor.G

/-
  Where both disks stand in chapter 9's law of plays; the law's helper small.
-/
namespace Go.Proofs.YtmfhipjceeijmaaGreatDoor.G
open Go.RowKit
open D (dP MAt F)
attribute [local go_sem] ext_Bd ext_Bl ext_Bt toList_B add_B size_B get_Bt

theorem lt_of_block {w : World} {h : Nat} {o : Obj} (ho : w.heap[h]? = some o) : h < w.heap.size := (Array.getElem?_eq_some_iff.1 ho).1
theorem belowT {n : Nat} {a b c : World} (h : Below n a b) (k : Below b.heap.size b c) (hn : n ≤ b.heap.size) : Below n a c := h.trans (k.mono hn)
theorem offA {wr : World} {S S2 : Nat → Prop} (hg : D.Grow S wr S2) {k : Nat} (hk : k < wr.heap.size) (hs : ¬ S k) : ¬ S2 k := fun h1 => by
  rcases hg k h1 with h | h
  · exact hs h
  · omega
theorem Named.names {l : List F} (h : Named l) : Names l := fun f hf => by have := (nameL_len (h f hf)).2; omega
theorem Named.append {room : Nat} {n s : Tx} {l : List F} (h : Named l) : Named (D.append room n s l).2 := by
  unfold D.append
  by_cases hn : nameL n = false
  · rw [if_pos hn]; exact h
  rw [if_neg hn]
  have hn2 : nameL n = true := by simpa using hn
  split
  · exact h
  split
  · exact h
  dsimp only
  refine h.put ?_
  cases D.find n l <;> exact hn2
theorem Named.sync {n : Tx} {l : List F} (h : Named l) : Named (D.sync n l).2 := by
  unfold D.sync
  cases hf : D.find n l with
  | none => exact h
  | some f => exact h.put (by have := h f (D.find_some hf).1; rw [(D.find_some hf).2] at this; exact this)
theorem Named.delete {n : Tx} {l : List F} (h : Named l) : Named (D.delete n l).2 := by
  unfold D.delete
  cases D.find n l with
  | none => exact h
  | some f => exact h.del
theorem Named.rename {a b : Tx} {l : List F} (h : Named l) : Named (D.rename a b l).2 := by
  unfold D.rename
  cases D.find a l with
  | none => exact h
  | some f =>
    dsimp only
    by_cases hb : nameL b = false
    · rw [if_pos hb]; exact h
    · rw [if_neg hb]; exact h.del.put (by simpa using hb)
theorem Named.create {room : Nat} {nm : Tx} {first : Int} {l : List F} (h : Named l) : Named (createD room nm first l).2 := by
  unfold createD
  split
  · exact h
  split
  · exact h
  split
  · exact h.append.sync
  · exact h
theorem Named.add {room : Nat} {nm : Tx} {es : List R.En} {l : List F} (h : Named l) : Named (addD room nm es l).2 := by
  unfold addD
  split
  · split
    · exact h
    split
    · exact h
    split
    · exact h
    split
    · exact h.append.sync
    · exact h
  · exact h
theorem Named.cut {room : Nat} {nm : Tx} {last : Int} {l : List F} (h : Named l) : Named (cutD room nm last l).2 := by
  unfold cutD
  split
  · split
    · exact h
    split
    · exact h.del.append.sync.rename
    · exact h.del
  · exact h
theorem light_tiny {b : E.Bat} (h : R.Light b) : E.Tiny b := ⟨by have := h.1; omega, fun _ e he => by have := (h.2.2 e he).1; omega⟩
/-- Where both disks stand. -/
structure PSA (C : D.DC) (w : World) (p mp room : Nat) (wr : World) (l : List F) (S : Nat → Prop) : Prop where
  at_ : C.At w.heap.size wr p room l S
  mat : MAt w.heap.size wr mp (room : Int) l
  inv : D.Inv room l
  nam : Named l
  bel : Below w.heap.size w wr
  off : ¬ S mp
section
variable {C : D.DC} {w : World} {p mp room : Nat} {wr w' : World} {l l2 : List F} {S S2 : Nat → Prop}
theorem PSA.lo (h : PSA C w p mp room wr l S) : ∀ k, S k → w.heap.size ≤ k := fun _ hk => (C.low h.at_ hk).1
theorem PSA.below (h : PSA C w p mp room wr l S) (hb : Below wr.heap.size wr w') : PSA C w p mp room w' l S :=
  ⟨C.below h.at_ hb, h.mat.below hb, h.inv, h.nam, h.bel.trans (hb.mono h.bel.size), h.off⟩
theorem PSA.drew (h : PSA C w p mp room wr l S) : PSA C w p mp room wr.drew l S := h.below ⟨rfl, rfl, rfl, Nat.le_refl _, fun _ _ => rfl⟩
/-- The landed disk is through with a call, the document's has it ahead. -/
structure MidA (C : D.DC) (w : World) (p mp room : Nat) (wr : World) (l l2 : List F) (S : Nat → Prop) : Prop where
  at_ : C.At w.heap.size wr p room l2 S
  mat : MAt w.heap.size wr mp (room : Int) l
  inv : D.Inv room l
  bel : Below w.heap.size w wr
  off : ¬ S mp
theorem PSA.mid (h : PSA C w p mp room wr l S) (hd : C.At w.heap.size w' p room l2 S2) (hg : D.Grow S wr S2) (hb : D.But S wr w') : MidA C w p mp room w' l l2 S2 :=
  ⟨hd, MAt_but h.mat hb h.off fun _ _ _ hk => C.typ h.at_ hk, h.inv, but_low h.bel hb h.lo, offA hg (MAt_lt h.mat) h.off⟩
theorem MidA.done (h : MidA C w p mp room wr l l2 S) (hm : MAt w.heap.size w' mp (room : Int) l2) (hk : D.Kp w.heap.size mp wr w') (hi : D.Inv room l2) (hn : Named l2) : PSA C w p mp room w' l2 S :=
  ⟨DC_kp C h.at_ hk h.off, hm, hi, hn, Kp_low rfl h.bel hk, h.off⟩
theorem MidA.drew (h : MidA C w p mp room wr l l2 S) : MidA C w p mp room wr.drew l l2 S :=
  ⟨C.below h.at_ ⟨rfl, rfl, rfl, Nat.le_refl _, fun _ _ => rfl⟩, h.mat.below ⟨rfl, rfl, rfl, Nat.le_refl _, fun _ _ => rfl⟩, h.inv, ⟨h.bel.os, h.bel.tape, h.bel.output, h.bel.size, h.bel.block⟩, h.off⟩
end
/-- The blocks of a call of goes: the pair and the act. -/
structure QB (g2 g3 p mp : Nat) (op n m : Int) (vl : Value) (t : Tx) (vk : Value) (w : World) : Prop where
  b2 : w.heap[g2]? = some (.cells #[dP p, dP mp] 28 (0, 0))
  b3 : w.heap[g3]? = some (.cells #[.int .i64 op, .int .i64 n, .int .i64 m, vl, .string (B t), vk] 36 (0, 0))
section
variable {g2 g3 p mp bs : Nat} {op n m : Int} {vl : Value} {t : Tx} {vk : Value} {w w' : World} {S : Nat → Prop}
theorem QB.but (h : QB g2 g3 p mp op n m vl t vk w) (hb : D.But S w w') (h2 : ¬ S g2) (h3 : ¬ S g3) : QB g2 g3 p mp op n m vl t vk w' :=
  ⟨(hb.block _ (lt_of_block h.b2) h2).trans h.b2, (hb.block _ (lt_of_block h.b3) h3).trans h.b3⟩
theorem QB.kp (h : QB g2 g3 p mp op n m vl t vk w) (hb : D.Kp bs mp w w') (h2 : g2 ≠ mp) (h3 : g3 ≠ mp) : QB g2 g3 p mp op n m vl t vk w' :=
  ⟨hb.block _ _ h.b2 (.inr ⟨h2, fun c fr e => by injection e with _ e2; exact absurd e2 (by decide)⟩), hb.block _ _ h.b3 (.inr ⟨h3, fun c fr e => by injection e with _ e2; exact absurd e2 (by decide)⟩)⟩
theorem QB.drew (h : QB g2 g3 p mp op n m vl t vk w) : QB g2 g3 p mp op n m vl t vk w.drew := ⟨h.b2, h.b3⟩
theorem QB.below (h : QB g2 g3 p mp op n m vl t vk w) (hb : Below w.heap.size w w') : QB g2 g3 p mp op n m vl t vk w' :=
  ⟨(hb.block _ (lt_of_block h.b2)).trans h.b2, (hb.block _ (lt_of_block h.b3)).trans h.b3⟩
abbrev Q8 (g2 g3 p mp : Nat) (op n m : Int) (vl : Value) (t : Tx) (vk : Value) (w : World) : Prop :=
  w.cell? ⟨g2, 0, none⟩ = some (dP p) ∧ w.cell? ⟨g2, 1, none⟩ = some (dP mp) ∧ w.cell? ⟨g3, 2, none⟩ = some (.int .i64 m) ∧ w.cell? ⟨g3, 3, none⟩ = some vl ∧ w.cell? ⟨g3, 4, none⟩ = some (.string (B t)) ∧ w.cell? ⟨g3, 5, none⟩ = some vk ∧ QB g2 g3 p mp op n m vl t vk w
theorem QB.q8 (h : QB g2 g3 p mp op n m vl t vk w) : Q8 g2 g3 p mp op n m vl t vk w :=
  ⟨by rw [blkA h.b2]; rfl, by rw [blkA h.b2]; rfl, by rw [blkA h.b3]; rfl, by rw [blkA h.b3]; rfl, by rw [blkA h.b3]; rfl, by rw [blkA h.b3]; rfl, h⟩
theorem QB.c0 (h : QB g2 g3 p mp op n m vl t vk w) : w.cell? ⟨g3, 0, none⟩ = some (.int .i64 op) := by rw [blkA h.b3]; rfl
theorem QB.c1 (h : QB g2 g3 p mp op n m vl t vk w) : w.cell? ⟨g3, 1, none⟩ = some (.int .i64 n) := by rw [blkA h.b3]; rfl
theorem Q8_drew (h : Q8 g2 g3 p mp op n m vl t vk w) : Q8 g2 g3 p mp op n m vl t vk w.drew := h.2.2.2.2.2.2.drew.q8
end
/-- What a call of goes leaves: all blocks that are none of either disk's. -/
def Rest (S : Nat → Prop) (mp : Nat) (S2 : Nat → Prop) (w w' : World) : Prop :=
  (∀ (k : Nat) (o : Obj), w.heap[k]? = some o → ¬ S k → k ≠ mp → (∀ c fr, o ≠ .cells c 114 fr) → w'.heap[k]? = some o) ∧ (∀ k, S2 k → S k ∨ w.heap.size ≤ k)
theorem rest_of {w w5 w7 w9 : World} {S S7 : Nat → Prop} {mp bs n : Nat} (hn : w.heap.size = n) (hB : Below n w w5) (hb : D.But S w5 w7) (hg : D.Grow S w5 S7) (hk : D.Kp bs mp w7 w9) : Rest S mp S7 w w9 := by
  subst hn
  refine ⟨fun k o ho hs hm ht => ?_, fun k h => (hg k h).imp id fun h2 => Nat.le_trans hB.size h2⟩
  have hlt := lt_of_block ho
  refine hk.block k o ?_ (.inr ⟨hm, ht⟩)
  rw [hb.block k (Nat.lt_of_lt_of_le hlt hB.size) hs, hB.block k hlt]
  exact ho
set_option maxHeartbeats 2000000 in
set_option maxRecDepth 100000 in
theorem small9_l (acs : List Ac) (v : Value) (w : World) (hv : ReadsA w v acs) :
    Calls Tryz.prog 5 #[v] w fun x w' => (x = .returned (.bool false) ∨ (x = .returned (.bool true) ∧ acs.length ≤ 40 ∧ ∀ i (h : i < acs.length), LightAll acs[i].l ∧ acs[i].text.length ≤ 1000 ∧ acs[i].keep.length ≤ 30)) ∧ Below w.heap.size w w' := by
  obtain ⟨a, cap, rfl, hx⟩ := hv
  have HX := Lib.hid hx
  clear hx
  by_cases hl : 40 < acs.length
  · have hli : (40 : Int) < (acs.length : Int) := by omega
    go_enter Tryz.func5, Tryz.ntmps5
    go_wp2
    go_ret
    exact ⟨.inl rfl, Below.refl _ _⟩
  have hli : ¬ (40 : Int) < (acs.length : Int) := by omega
  go_enter Tryz.func5, Tryz.ntmps5
  go_wp2
  go_loopw [3] (fun i wr => ∃ k : Nat, i = .int .i64 k ∧ k ≤ acs.length ∧ Hid (∀ i (h : i < acs.length), i < k → LightAll acs[i].l ∧ acs[i].text.length ≤ 1000 ∧ acs[i].keep.length ≤ 30) ∧ Hid (Below w.heap.size w wr)) (fun i _ => acs.length - (intOf i).toNat)
  case atStart => exact ⟨0, rfl, Nat.zero_le _, Lib.hid fun i h h0 => absurd h0 (by omega), Lib.hid (Below.refl _ _)⟩
  case round =>
    obtain ⟨k, rfl, hk, HK, HB⟩ := hrel
    by_cases hlt : k < acs.length
    · have hi1 : (k : Int) < (acs.length : Int) := by omega
      obtain ⟨⟨hs, hkp, -, -, -, ht⟩, bb, off, rfl, c⟩ := HX.out k hlt
      have c6 := c.keep (keepsA HB.out)
      obtain ⟨c0, c1, c2, c3, c4, c5⟩ := c6
      have HRW := Lib.hid (readsR_below hs HB.out)
      obtain ⟨sa, sc, hsv, -⟩ := hs
      obtain ⟨ka, kc, hkv, -⟩ := hkp
      rw [hkv] at c5
      have HNX : Hid (LightAll acs[k].l ∧ acs[k].text.length ≤ 1000 ∧ acs[k].keep.length ≤ 30 → ∀ i (h : i < acs.length), i < k + 1 → LightAll acs[i].l ∧ acs[i].text.length ≤ 1000 ∧ acs[i].keep.length ≤ 30) := Lib.hid fun h i hi hik => by
        by_cases e : i = k
        · subst e; exact h
        · exact HK.out i hi (by omega)
      clear HK hkv hsv c
      generalize acs[k] = ac at *
      go_wp2_with fail
      refine (fits9_l ac.l ac.vl wr HRW.out).mono ?_
      rintro x w2 ⟨hx, hb2⟩
      have HB2 := Lib.hid (belowT HB.out hb2 HB.out.size)
      have d4 := keepsA hb2 _ _ c4
      have d5 := keepsA hb2 _ _ c5
      clear hb2 c0 c1 c2 c3 c4 c5
      rcases hx with rfl | ⟨rfl, hla⟩
      · go_wp2
        go_ret
        exact ⟨.inl rfl, HB2.out⟩
      have HLA := Lib.hid hla
      clear hla
      by_cases h2 : 1000 < ac.text.length
      · have h2i : (1000 : Int) < (ac.text.length : Int) := by omega
        go_wp2
        go_ret
        exact ⟨.inl rfl, HB2.out⟩
      have h2i : ¬ (1000 : Int) < (ac.text.length : Int) := by omega
      by_cases h3 : 30 < ac.keep.length
      · have h3i : (30 : Int) < (ac.keep.length : Int) := by omega
        go_wp2
        go_ret
        exact ⟨.inl rfl, HB2.out⟩
      have h3i : ¬ (30 : Int) < (ac.keep.length : Int) := by omega
      have HN2 := Lib.hid (HNX.out ⟨HLA.out, by omega, by omega⟩)
      go_wp2
      go_roundw
      case rel => exact ⟨k + 1, by go_num, by omega, HN2, HB2⟩
      case measure => simp [intOf]; omega
    · have HE := Lib.hid fun (i : Nat) (h : i < acs.length) => HK.out i h (by omega)
      go_wp2
      go_ret
      exact ⟨.inr ⟨rfl, by omega, HE.out⟩, HB.out⟩
end Go.Proofs.YtmfhipjceeijmaaGreatDoor.G

/-
  The segment package: goesOn, isThere, extend, write.
-/
namespace Go.Proofs.YtmfhipjceeijmaaGreatDoor.G
open Go.RowKit
open D (dP)
attribute [local go_sem] ext_Bd ext_Bl ext_Bt toList_B add_B size_B get_Bt

theorem lastP_at {es : List EV} {k : Nat} (h : es.length = k + 1) (p : Int) : R.lastP (ensOf es) p = (es[k]'(by omega)).1.pos := by
  unfold R.lastP
  have hl : (ensOf es).length = k + 1 := by rw [ensOf_len]; exact h
  rw [List.getLast?_eq_getElem?, hl, List.getElem?_eq_getElem (by omega)]
  simp [ensOf]
theorem lastQ_at {es : List EV} {k : Nat} (h : es.length = k + 1) (p : Int) : R.lastQ (ensOf es) p = (es[k]'(by omega)).1.epoch := by
  unfold R.lastQ
  have hl : (ensOf es).length = k + 1 := by rw [ensOf_len]; exact h
  rw [List.getLast?_eq_getElem?, hl, List.getElem?_eq_getElem (by omega)]
  simp [ensOf]
set_option maxRecDepth 100000 in
set_option maxHeartbeats 2000000 in
theorem goesOn_l (f : Nat) (xs : List EV) (v : Value) (t : Bool) (es : List EV) (vl : Value) (r : Bool) (w : World) (hf : 1 ≤ f ∧ f ≤ far) (hx : ReadsR w v xs) (hv : ReadsR w vl es) (hxl : xs.length ≤ 100000000) (hl : es.length ≤ 1000) (hs : ∀ x ∈ es, E.Small x.1.b) (H : R.follows (ensOf es) (R.lastP (ensOf xs) ((f : Int) - 1)) (R.lastQ (ensOf xs) 0) = r) :
    Calls Tryz.prog 53 #[.agg #[.int .i64 (f : Int), v, .bool t], vl] w fun x w' => x = .returned (.bool r) ∧ Below w.heap.size w w' := by
  have hff : (f : Int) ≤ 274877906944 := by have := hf.2; unfold far at this; omega
  have hf1 : (1 : Int) ≤ (f : Int) := by omega
  obtain ⟨a, cap, rfl, _, _, hxx⟩ := id hx
  have hal : Below w.heap.size w (w.alloc (.cells #[.int .i64 (f : Int), .slice a xs.length cap, .bool t] 38)) := (Below.refl _ w).alloc (Nat.le_refl _) _
  have HAL := Lib.hid hal
  have HV0 := Lib.hid hv
  by_cases h0 : xs.length = 0
  · have hxe : xs = [] := List.length_eq_zero_iff.1 h0
    subst hxe
    have HF := Lib.hid (Follows_at es vl ((f : Int) - 1) 0 r _ (readsR_below hv hal) hl hs (by unfold i64B; omega) (Lib.hid H))
    clear hx hv hxx hal H h0 hs
    go_enter Tryz.func53, Tryz.ntmps53
    go_wp2_with fail
    refine HF.out.mono ?_
    rintro x w1 ⟨rfl, hb1⟩
    go_wp2
    go_ret
    exact ⟨rfl, HAL.out.trans (hb1.mono HAL.out.size)⟩
  · obtain ⟨k, hk⟩ : ∃ k, xs.length = k + 1 := ⟨xs.length - 1, by omega⟩
    obtain ⟨hre, hpos, b1, o1, rfl, h7⟩ := hxx k (by omega)
    rw [lastP_at hk, lastQ_at hk] at H
    rw [hk] at hal
    have h7b := h7.keep (below_keeps hal)
    generalize xs[k] = pe at *
    obtain ⟨⟨pos, ep, ⟨st, ex, se, sq, evs⟩⟩, u⟩ := pe
    dsimp only at h7b hre H hpos
    obtain ⟨ea, ec, rfl, _⟩ := id hre
    obtain ⟨c0, c1, c2, c3, c4, c5, c6⟩ := h7b
    clear hxx hx HAL h7
    rw [hk]
    have hkb : k ≤ 100000000 := by omega
    have hi0 : (((k : Int) + 1) == 0) = false := beq_eq_false_iff_ne.2 (by omega)
    clear hxl hk h0
    have hal2 : Below w.heap.size w ((w.alloc (.cells #[.int .i64 (f : Int), .slice (some ⟨b1, o1, none⟩) (k + 1) cap, .bool t] 38)).alloc (.cells #[.int .i64 pos, .int .i64 ep, .string (B st), .int .i64 ex, .int .i64 se, .int .i64 sq, .slice ea evs.length ec] 53)) := hal.alloc hal.size _
    have HAL2 := Lib.hid hal2
    have HF := Lib.hid (Follows_at es vl pos ep r _ (readsR_below hv hal2) hl hs hpos (Lib.hid H))
    clear hv hal hal2 H hs hre
    go_enter Tryz.func53, Tryz.ntmps53
    go_wp2_with fail
    refine HF.out.mono ?_
    rintro x w1 ⟨rfl, hb1⟩
    go_wp2
    go_ret
    exact ⟨rfl, HAL2.out.trans (hb1.mono HAL2.out.size)⟩
end Go.Proofs.YtmfhipjceeijmaaGreatDoor.G

/-
  The segment package: isThere, extend, write.
-/
namespace Go.Proofs.YtmfhipjceeijmaaGreatDoor.G
open Go.RowKit
open D (dP)
attribute [local go_sem] ext_Bd ext_Bl ext_Bt toList_B add_B size_B get_Bt

set_option maxRecDepth 100000 in
theorem isThere_l (C : D.DC) {bs : Nat} {w : World} {p room : Nat} {l : List D.F} {S : Nat → Prop} (nm : Tx) (r : Bool) (hA : C.At bs w p room l S) (hI : D.Inv room l) (hroom : room ≤ 100000000) (hnm : nm.length ≤ 14) (H : (D.find nm l).isSome = r) :
    Calls Tryz.prog 50 #[dP p, .string (B nm)] w fun x w' => x = .returned (.bool r) ∧ Below w.heap.size w w' := by
  cases hf : D.find nm l with
  | none =>
    have HRD := Lib.hid (C.read nm [] 6 hA hI (by omega) (by omega) (by unfold D.read; rw [hf]))
    have HR : Hid (r = false) := Lib.hid (by rw [← H, hf]; rfl)
    clear H hf hA hI
    go_enter Tryz.func50, Tryz.ntmps50
    go_wp2_with fail
    refine HRD.out.mono ?_
    rintro x w1 ⟨rfl, hb⟩
    go_wp2
    go_ret
    rw [HR.out]
    exact ⟨rfl, hb⟩
  | some f =>
    have HRD := Lib.hid (C.read nm f.data 0 hA hI (by omega) (by omega) (by unfold D.read; rw [hf]))
    have HR : Hid (r = true) := Lib.hid (by rw [← H, hf]; rfl)
    clear H hf hA hI
    go_enter Tryz.func50, Tryz.ntmps50
    go_wp2_with fail
    refine HRD.out.mono ?_
    rintro x w1 ⟨rfl, hb⟩
    go_wp2
    go_ret
    rw [HR.out]
    exact ⟨rfl, hb⟩

/-- Bytes behind a file's, synced: the error, and the files. -/
def extD (room : Nat) (nm s : Tx) (l : List D.F) : Nat × List D.F :=
  if (D.append room nm s l).1 = 0 then D.sync nm (D.append room nm s l).2 else ((D.append room nm s l).1, l)
theorem sync_ok {room : Nat} {nm s : Tx} {l : List D.F} (h : (D.append room nm s l).1 = 0) : (D.sync nm (D.append room nm s l).2).1 = 0 := by
  have key : ∃ f : D.F, f.name = nm ∧ (D.append room nm s l).2 = D.put f l := by
    unfold D.append at h ⊢
    split
    · rename_i h1; rw [if_pos h1] at h; cases h
    rename_i h1
    rw [if_neg h1] at h
    split
    · rename_i h2; rw [if_pos h2] at h; cases h
    rename_i h2
    rw [if_neg h2] at h
    split
    · rename_i h3; rw [if_pos h3] at h; cases h
    · refine ⟨_, ?_, rfl⟩
      split <;> rfl
  obtain ⟨f, hf, e⟩ := key
  have hp := D.find_put (f := f) l
  rw [hf] at hp
  rw [e]
  unfold D.sync
  rw [hp]
set_option maxRecDepth 100000 in
set_option maxHeartbeats 1000000 in
theorem extend_l (C : D.DC) {bs : Nat} {w : World} {p room : Nat} {l : List D.F} {S : Nat → Prop} (nm : Tx) (ps : List Tx) (va : Value) (e : Nat) (l2 : List D.F) (hA : C.At bs w p room l S) (hI : D.Inv room l) (hroom : room ≤ 100000000) (hnm : nm.length ≤ 14) (hv : Reads w va (strCells ps)) (hps : ∀ q ∈ ps, F.good q) (hn : ps.length ≤ 100000000) (hfl : (F.frames ps).length ≤ 1000000000) (H : extD room nm (F.frames ps) l = (e, l2)) :
    Calls Tryz.prog 54 #[dP p, .string (B nm), va] w fun x w' => x = .returned (.int .i64 (e : Int)) ∧ (∃ S2, C.At bs w' p room l2 S2 ∧ D.Grow S w S2) ∧ D.But S w w' := by
  have HROW := Lib.hid (FRow_at ps (F.frames ps) 0 va w hv hn (Lib.hid (rowS_ok (F.codes_good hps))) (Lib.hid (F.codes_good hps)))
  have HE := Lib.hid H
  have HI := Lib.hid hI
  have HA := Lib.hid hA
  obtain ⟨s, hs⟩ : ∃ s, F.frames ps = s := ⟨_, rfl⟩
  rw [hs] at HROW HE hfl
  obtain ⟨e1, he1⟩ : ∃ e1, (D.append room nm s l).1 = e1 := ⟨_, rfl⟩
  obtain ⟨l1, hl1⟩ : ∃ l1, (D.append room nm s l).2 = l1 := ⟨_, rfl⟩
  have HAP := Lib.hid (show D.append room nm s l = (e1, l1) by rw [← he1, ← hl1])
  have HI1 := Lib.hid (show D.Inv room l1 by rw [← hl1]; exact hI.append)
  obtain ⟨na, nn, nc, rfl⟩ : ∃ a n c, va = .slice a n c := by obtain ⟨a, c, h, _⟩ := hv; exact ⟨a, _, c, h⟩
  clear H hI hA hv hps hs
  by_cases h0 : e1 = 0
  · subst h0
    have HSY := Lib.hid (show D.sync nm l1 = (e, l2) by
      have := HE.out
      unfold extD at this
      rw [if_pos he1, hl1] at this
      exact this)
    clear HE he1 hl1
    go_enter Tryz.func54, Tryz.ntmps54
    go_wp2_with fail
    refine HROW.out.mono ?_
    rintro x w1 ⟨rfl, hb1⟩
    have HA1 := Lib.hid (C.below HA.out hb1)
    have HB1 := Lib.hid (D.But.of_below (S := S) hb1)
    have hs1 := hb1.size
    clear hb1
    go_wp2_with fail
    refine (C.append nm s 0 l1 HA1.out HI.out (by omega) (by omega) hfl HAP.out).mono ?_
    rintro x w2 ⟨rfl, ⟨S2, hA2, hg2⟩, hb2⟩
    have HA2 := Lib.hid hA2
    have HG2 := Lib.hid (hg2.wide hs1)
    have HB2 := Lib.hid (HB1.out.trans hb2)
    clear hA2 hg2 hb2 HA1 HB1
    go_wp2_with fail
    refine (C.sync nm e l2 HA2.out HI1.out (by omega) (by omega) HSY.out).mono ?_
    rintro x w3 ⟨rfl, ⟨S3, hA3, hg3⟩, hb3⟩
    have HR := Lib.hid (show (∃ S2, C.At bs w3 p room l2 S2 ∧ D.Grow S w S2) ∧ D.But S w w3 from ⟨⟨S3, hA3, HG2.out.next hg3 HB2.out.size⟩, HB2.out.next hb3 HG2.out⟩)
    clear hA3 hg3 hb3
    go_wp2
    go_ret
    exact ⟨rfl, HR.out⟩
  · have HEE := Lib.hid (show e1 = e ∧ l1 = l2 by
      have := HE.out
      unfold extD at this
      rw [if_neg (by rw [he1]; exact h0), he1] at this
      have h2 := append_err (room := room) (nm := nm) (s := s) (l := l) (by rw [he1]; exact h0)
      rw [hl1] at h2
      cases this
      exact ⟨rfl, h2⟩)
    have hei : ((e1 : Int) == 0) = false := beq_eq_false_iff_ne.2 (by omega)
    have hen : ¬ (e1 : Int) = 0 := by omega
    clear HE he1 hl1
    go_enter Tryz.func54, Tryz.ntmps54
    go_wp2_with fail
    refine HROW.out.mono ?_
    rintro x w1 ⟨rfl, hb1⟩
    have HA1 := Lib.hid (C.below HA.out hb1)
    have HB1 := Lib.hid (D.But.of_below (S := S) hb1)
    have hs1 := hb1.size
    clear hb1
    go_wp2_with fail
    refine (C.append nm s e1 l1 HA1.out HI.out (by omega) (by omega) hfl HAP.out).mono ?_
    rintro x w2 ⟨rfl, ⟨S2, hA2, hg2⟩, hb2⟩
    have HA2 := Lib.hid hA2
    have HG2 := Lib.hid (hg2.wide hs1)
    have HB2 := Lib.hid (HB1.out.trans hb2)
    clear hA2 hg2 hb2 HA1 HB1
    go_wp2
    go_ret
    rw [← HEE.out.1, ← HEE.out.2]
    exact ⟨rfl, ⟨S2, HA2.out, HG2.out⟩, HB2.out⟩
def wrD (room : Nat) (nm s : Tx) (l : List D.F) : Nat × List D.F :=
  if (D.append room nm s l).1 = 0 then D.sync nm (D.append room nm s l).2 else ((D.append room nm s l).1, D.del nm l)
theorem delete_two (nm : Tx) (l : List D.F) : (D.delete nm l).2 = D.del nm l := by
  unfold D.delete
  split
  · rename_i h; exact (D.del_none h).symm
  · rfl
set_option maxRecDepth 100000 in
set_option maxHeartbeats 1000000 in
theorem write_l (C : D.DC) {bs : Nat} {w : World} {p room : Nat} {l : List D.F} {S : Nat → Prop} (nm : Tx) (ps : List Tx) (va : Value) (e : Nat) (l2 : List D.F) (hA : C.At bs w p room l S) (hI : D.Inv room l) (hroom : room ≤ 100000000) (hnm : nm.length ≤ 14) (hv : Reads w va (strCells ps)) (hps : ∀ q ∈ ps, F.good q) (hn : ps.length ≤ 100000000) (hfl : (F.frames ps).length ≤ 1000000000) (H : wrD room nm (F.frames ps) l = (e, l2)) :
    Calls Tryz.prog 51 #[dP p, .string (B nm), va] w fun x w' => x = .returned (.int .i64 (e : Int)) ∧ (∃ S2, C.At bs w' p room l2 S2 ∧ D.Grow S w S2) ∧ D.But S w w' := by
  obtain ⟨na, nn, nc, rfl⟩ : ∃ a n c, va = .slice a n c := by obtain ⟨a, c, h, _⟩ := hv; exact ⟨a, _, c, h⟩
  by_cases h0 : (D.append room nm (F.frames ps) l).1 = 0
  · have he : extD room nm (F.frames ps) l = (e, l2) := by
      unfold wrD at H
      unfold extD
      rw [if_pos h0] at H ⊢
      exact H
    have he0 : e = 0 := by
      have := sync_ok h0
      unfold extD at he
      rw [if_pos h0] at he
      rw [he] at this
      exact this
    have HX := Lib.hid (extend_l C nm ps _ e l2 hA hI hroom hnm hv hps hn hfl he)
    subst he0
    clear H h0 he hA hI hv hps
    go_enter Tryz.func51, Tryz.ntmps51
    go_wp2_with fail
    refine HX.out.mono ?_
    rintro x w1 ⟨rfl, h1, h2⟩
    have H1 := Lib.hid h1
    clear h1
    go_wp2
    go_ret
    exact ⟨rfl, H1.out, h2⟩
  · obtain ⟨e1, he1⟩ : ∃ e1, (D.append room nm (F.frames ps) l).1 = e1 := ⟨_, rfl⟩
    have he : extD room nm (F.frames ps) l = (e1, l) := by unfold extD; rw [if_neg h0, he1]
    have HEE := Lib.hid (show e1 = e ∧ D.del nm l = l2 by
      unfold wrD at H
      rw [if_neg h0, he1] at H
      cases H
      exact ⟨rfl, rfl⟩)
    have HX := Lib.hid (extend_l C nm ps _ e1 l hA hI hroom hnm hv hps hn hfl he)
    have HI := Lib.hid hI
    rw [he1] at h0
    have hei : ((e1 : Int) == 0) = false := beq_eq_false_iff_ne.2 (by omega)
    have hen : ¬ (e1 : Int) = 0 := by omega
    obtain ⟨ed, hed⟩ : ∃ ed, (D.delete nm l).1 = ed := ⟨_, rfl⟩
    have HDL := Lib.hid (show D.delete nm l = (ed, D.del nm l) by rw [← hed, ← delete_two])
    clear H he hA hI hv hps he1 hed
    go_enter Tryz.func51, Tryz.ntmps51
    go_wp2_with fail
    refine HX.out.mono ?_
    rintro x w1 ⟨rfl, ⟨S1, hA1, hg1⟩, hb1⟩
    have HA1 := Lib.hid hA1
    have HG1 := Lib.hid hg1
    have HB1 := Lib.hid hb1
    clear hA1 hg1 hb1
    go_wp2_with fail
    refine (C.delete nm ed (D.del nm l) HA1.out HI.out (by omega) (by omega) HDL.out).mono ?_
    rintro x w2 ⟨rfl, ⟨S2, hA2, hg2⟩, hb2⟩
    have HR := Lib.hid (show (∃ S2, C.At bs w2 p room (D.del nm l) S2 ∧ D.Grow S w S2) ∧ D.But S w w2 from ⟨⟨S2, hA2, HG1.out.next hg2 HB1.out.size⟩, HB1.out.next hb2 HG1.out⟩)
    clear hA2 hg2 hb2
    go_wp2
    go_ret
    rw [← HEE.out.1, ← HEE.out.2]
    exact ⟨rfl, HR.out⟩
end Go.Proofs.YtmfhipjceeijmaaGreatDoor.G

/-
  The segment package: Load at any file, Create, Add.
-/
namespace Go.Proofs.YtmfhipjceeijmaaGreatDoor.G
open Go.RowKit
open D (dP)
attribute [local go_sem] ext_Bd ext_Bl ext_Bt toList_B add_B size_B get_Bt

theorem Load_x (C : D.DC) {bs : Nat} {w : World} {p room : Nat} {l : List D.F} {S : Nat → Prop} (n : Nat) (e f : Nat) (es : List R.En) (t : Bool) (hA : C.At bs w p room l S) (hI : D.Inv room l) (hroom : room ≤ 100000000) (hn : n ≤ 9) (H : loadD (nameS (n : Int)) l = (e, f, es, t)) :
    Calls Tryz.prog 10 #[dP p, .int .i64 (n : Int)] w fun x w' => (∃ v xs, x = .returned (.tuple #[.agg #[.int .i64 (f : Int), v, .bool t], .int .i64 (e : Int)]) ∧ ensOf xs = es ∧ RowX w.heap.size v w' xs) ∧ Below w.heap.size w w' := by
  cases hf : D.find (nameS (n : Int)) l with
  | none =>
    unfold loadD at H
    rw [hf] at H
    cases H
    exact (load_none C n hA hI hroom hn hf).mono fun x w' ⟨a, b⟩ => ⟨⟨_, [], a, rfl, RowX.nil _ _⟩, b⟩
  | some fl =>
    obtain ⟨nm2, s, y⟩ := fl
    have hnm : nm2 = nameS (n : Int) := (D.find_some hf).2
    subst hnm
    unfold loadD at H
    rw [hf] at H
    dsimp only at H
    cases hs : (F.scan s).1 with
    | nil =>
      have hl : loadL s = none := by unfold loadL; rw [hs]
      rw [hl] at H
      cases H
      exact (load_noscan C n hA hI hroom hn s y hf hs).mono fun x w' ⟨a, b⟩ => ⟨⟨_, [], a, rfl, RowX.nil _ _⟩, b⟩
    | cons q qs =>
      cases hq : headOf q with
      | none =>
        have hl : loadL s = none := by unfold loadL; rw [hs]; dsimp only; rw [hq]
        rw [hl] at H
        cases H
        exact (load_nohead C n hA hI hroom hn s y q qs hf hs hq).mono fun x w' ⟨a, b⟩ => ⟨⟨_, [], a, rfl, RowX.nil _ _⟩, b⟩
      | some f2 =>
        have hl : loadL s = some (f2, goOn qs ((f2 : Int) - 1) 0, decide (segB f2 (goOn qs ((f2 : Int) - 1) 0) ≠ s)) := by unfold loadL; rw [hs]; dsimp only; rw [hq]
        rw [hl] at H
        dsimp only at H
        cases H
        exact (load_ok C n hA hI hroom hn s y q qs f _ hf hs hq rfl).mono fun x w' ⟨⟨v, xs, a, b, c⟩, d⟩ => ⟨⟨v, xs, a, b, c⟩, d⟩
/-- What a segment that was read is. -/
theorem load_facts {room n f : Nat} {l : List D.F} {es : List R.En} {t : Bool} (hI : D.Inv room l) (H : loadD (nameS (n : Int)) l = (0, f, es, t)) : (1 ≤ f ∧ f ≤ far) ∧ R.follows es ((f : Int) - 1) 0 = true ∧ (segB f es).length ≤ room ∧ es.length ≤ room := by
  cases hf : D.find (nameS (n : Int)) l with
  | none =>
    unfold loadD at H
    rw [hf] at H
    cases H
  | some fl =>
    obtain ⟨nm2, s, y⟩ := fl
    have hnm : nm2 = nameS (n : Int) := (D.find_some hf).2
    subst hnm
    unfold loadD at H
    rw [hf] at H
    dsimp only at H
    cases hl : loadL s with
    | none => rw [hl] at H; cases H
    | some x =>
      rw [hl] at H
      have hx : loadL s = some (f, es, t) := by
        rw [hl]
        cases H
        rfl
      obtain ⟨h1, h2, h3, ⟨r, hr⟩, _⟩ := load_is hx
      have hd := inv_data hI hf
      have hlen := congrArg List.length hr
      rw [List.length_append] at hlen
      have hge := frames_ge (rows f es)
      have hrl : (rows f es).length = es.length + 1 := by simp [rows]
      have hseg : segB f es = F.frames (rows f es) := rfl
      rw [← hseg] at hge
      exact ⟨⟨h1, h2⟩, h3, by omega, by omega⟩

set_option maxRecDepth 100000 in
set_option maxHeartbeats 2000000 in
theorem Create_l (C : D.DC) {bs : Nat} {w : World} {p room : Nat} {l : List D.F} {S : Nat → Prop} (n : Nat) (first : Int) (e : Nat) (l2 : List D.F) (hA : C.At bs w p room l S) (hI : D.Inv room l) (hroom : room ≤ 100000000) (h1 : 1 ≤ n) (h9 : n ≤ 9) (hf : i64B first) (H : createD room (nameS (n : Int)) first l = (e, l2)) :
    Calls Tryz.prog 13 #[dP p, .int .i64 (n : Int), .int .i64 first] w fun x w' => x = .returned (.int .i64 (e : Int)) ∧ (∃ S2, C.At bs w' p room l2 S2 ∧ D.Grow S w S2) ∧ D.But S w w' := by
  have hnm := name_ne (z := (n : Int)) (by omega)
  have hnl := name_len (n : Int)
  have HBN : Hid (decide ((1 : Int) ≤ (n : Int) ∧ (n : Int) ≤ 1073741824) = true) := Lib.hid (by simp; omega)
  have HA := Lib.hid hA
  have HI := Lib.hid hI
  obtain ⟨hf1, hf2⟩ := hf
  by_cases hb : first < 1 ∨ (far : Int) < first
  · have HBF : Hid (decide ((1 : Int) ≤ first ∧ first ≤ 274877906944) = false) := Lib.hid (by
      rw [decide_eq_false_iff_not]; unfold far at hb; omega)
    have HE := Lib.hid (show e = 1 ∧ l2 = l by
      unfold createD at H
      rw [if_pos (.inr hb)] at H
      cases H
      exact ⟨rfl, rfl⟩)
    clear H hb hnm hA hI
    go_enter Tryz.func13, Tryz.ntmps13
    go_wp2_with fail
    refine (between_l _ _ _ true _ HBN).mono ?_
    rintro x w1 ⟨rfl, rfl⟩
    go_wp2_with fail
    refine (between_l _ _ _ false _ HBF).mono ?_
    rintro x w2 ⟨rfl, rfl⟩
    go_wp2
    go_ret
    rw [HE.out.1, HE.out.2]
    exact ⟨rfl, ⟨S, HA.out, fun _ h => .inl h⟩, D.But.refl _ _⟩
  · obtain ⟨f, rfl⟩ : ∃ f : Nat, first = f := ⟨first.toNat, by omega⟩
    have hfar : 1 ≤ f ∧ f ≤ far := by omega
    have HBF : Hid (decide ((1 : Int) ≤ (f : Int) ∧ (f : Int) ≤ 274877906944) = true) := Lib.hid (by
      rw [decide_eq_true_iff]; have := hfar.2; unfold far at this; omega)
    unfold createD at H
    rw [if_neg (by rintro (h | h | h) <;> first | exact hnm h | omega)] at H
    obtain ⟨nm, hnme⟩ : ∃ nm, nameS (n : Int) = nm := ⟨_, rfl⟩
    have HNM := Lib.hid hnme
    rw [hnme] at H hnm hnl
    cases hfd : D.find nm l with
    | some fl =>
      rw [hfd] at H
      have HE := Lib.hid (show e = 7 ∧ l2 = l by cases H; exact ⟨rfl, rfl⟩)
      have HTH := Lib.hid (show (D.find nm l).isSome = true by rw [hfd]; rfl)
      clear H hb hnm hA hI hnme hfd hfar
      go_enter Tryz.func13, Tryz.ntmps13
      go_wp2_with fail
      refine (between_l _ _ _ true _ HBN).mono ?_
      rintro x w1 ⟨rfl, rfl⟩
      go_wp2_with fail
      refine (between_l _ _ _ true _ HBF).mono ?_
      rintro x w2 ⟨rfl, rfl⟩
      go_wp2_with fail
      refine (Name_l (n : Int) w2 ⟨by omega, by omega⟩ (.inr (by omega))).mono ?_
      rw [HNM.out]
      rintro x w3 ⟨rfl, hb3⟩
      have HA3 := Lib.hid (C.below HA.out hb3)
      have HB3 := Lib.hid hb3
      clear hb3
      go_wp2_with fail
      refine (isThere_l C nm true HA3.out HI.out hroom hnl HTH.out).mono ?_
      rintro x w4 ⟨rfl, hb4⟩
      have HB4 := Lib.hid (HB3.out.trans (hb4.mono HB3.out.size))
      have HA4 := Lib.hid (C.below HA3.out hb4)
      clear hb4
      go_wp2
      go_ret
      rw [HE.out.1, HE.out.2]
      exact ⟨rfl, ⟨S, HA4.out, fun _ h => .inl h⟩, D.But.of_below HB4.out⟩
    | none =>
      rw [hfd] at H
      dsimp only at H
      have HWR := Lib.hid (show wrD room nm (F.frames [headP f]) l = (e, l2) by
        unfold wrD
        rw [D.del_none hfd]
        exact H)
      have HTH := Lib.hid (show (D.find nm l).isSome = false by rw [hfd]; rfl)
      have hgood := head_good hfar.2
      have hhl := F.frame_len (headP f)
      have HGD := Lib.hid (show ∀ q ∈ [headP f], F.good q from fun q hq => by rw [List.mem_singleton] at hq; subst hq; exact hgood)
      have HFL := Lib.hid (show (F.frames [headP f]).length ≤ 1000000000 by
        rw [F.frames_cons, F.frames_nil, List.append_nil, hhl]; unfold F.good at hgood; omega)
      have hff := hfar.2
      clear H hb hnm hA hI hnme hfd hfar hgood hhl
      go_enter Tryz.func13, Tryz.ntmps13
      go_wp2_with fail
      refine (between_l _ _ _ true _ HBN).mono ?_
      rintro x w1 ⟨rfl, rfl⟩
      go_wp2_with fail
      refine (between_l _ _ _ true _ HBF).mono ?_
      rintro x w2 ⟨rfl, rfl⟩
      go_wp2_with fail
      refine (Name_l (n : Int) w2 ⟨by omega, by omega⟩ (.inr (by omega))).mono ?_
      rw [HNM.out]
      rintro x w3 ⟨rfl, hb3⟩
      have HA3 := Lib.hid (C.below HA.out hb3)
      have HB3 := Lib.hid hb3
      clear hb3
      go_wp2_with fail
      refine (isThere_l C nm false HA3.out HI.out hroom hnl HTH.out).mono ?_
      rintro x w4 ⟨rfl, hb4⟩
      have HB4 := Lib.hid (HB3.out.trans (hb4.mono HB3.out.size))
      have HA4 := Lib.hid (C.below HA3.out hb4)
      clear hb4 HA3 HB3
      go_wp2_with fail
      refine (Name_l (n : Int) w4 ⟨by omega, by omega⟩ (.inr (by omega))).mono ?_
      rw [HNM.out]
      rintro x w5 ⟨rfl, hb5⟩
      have HA5 := Lib.hid (C.below HA4.out hb5)
      have HB5 := Lib.hid (HB4.out.trans (hb5.mono HB4.out.size))
      clear hb5 HA4 HB4
      go_wp2_with fail
      refine (headOf_l f w5 hff).mono ?_
      rintro x w6 ⟨rfl, hb6⟩
      have HA6 := Lib.hid (C.below HA5.out hb6)
      have HB6 := Lib.hid (HB5.out.trans (hb6.mono HB5.out.size))
      clear hb6 HA5 HB5
      have hal : Below w6.heap.size w6 (w6.alloc (.cells #[.string (B (headP f))] 9)) := (Below.refl _ w6).alloc (Nat.le_refl _) _
      have HRD := Lib.hid (show Reads (w6.alloc (.cells #[.string (B (headP f))] 9)) (.slice (some ⟨w6.heap.size, 0, none⟩) 1 1) (strCells [headP f]) from
        ⟨_, 1, rfl, fun i hi => by
          obtain rfl : i = 0 := by simpa [strCells] using hi
          exact ⟨w6.heap.size, 0, rfl, by rw [World.cell?_alloc_new]; rfl⟩⟩)
      have HA7 := Lib.hid (C.below HA6.out hal)
      have HB7 := Lib.hid (HB6.out.trans (hal.mono HB6.out.size))
      clear hal
      generalize headP f = hp at *
      go_wp2_with fail
      refine (write_l C nm [hp] _ e l2 HA7.out HI.out hroom hnl HRD.out HGD.out (by simp) HFL.out HWR.out).mono ?_
      rintro x w8 ⟨rfl, ⟨S2, hA8, hg8⟩, hb8⟩
      have HR := Lib.hid (show (∃ S2, C.At bs w8 p room l2 S2 ∧ D.Grow S w2 S2) ∧ D.But S w2 w8 from ⟨⟨S2, hA8, hg8.wide HB7.out.size⟩, (D.But.of_below HB7.out).trans hb8⟩)
      clear hA8 hg8 hb8
      go_wp2
      go_ret
      exact ⟨rfl, HR.out⟩
end Go.Proofs.YtmfhipjceeijmaaGreatDoor.G
