/-
  Walk of package record: Marks.
-/
import Derived.Test.YtfhopgficckjkaaRecordForce
namespace Go.Proofs.Ytfhopgficckjkaa
open Go.RowKit
attribute [local go_sem] ext_Bd ext_Bl ext_Bt toList_B add_B size_B get_Bt

abbrev ensOf (es : List EV) : List R.En := es.map (·.1)
theorem ensOf_len (es : List EV) : (ensOf es).length = es.length := List.length_map _
/-- The marks of some entries, in a row of the call's own. -/
structure MarksAt (w : World) (l : List R.En) (k : Nat) (v : Value) (wr : World) : Prop where
  own : wr.ownsRow w.heap.size 52 2 v (R.marks (l.take k)).length (mkCells (R.marks (l.take k)))
  bel : Below w.heap.size w wr
theorem marks_next {w wr w1 : World} {l : List R.En} {k : Nat} {v v' : Value} {m : R.Mk} {o2 : Obj} {q : Nat} (h : MarksAt w l k v wr) (hm : R.marks (l.take (k + 1)) = R.marks (l.take k) ++ [m])
    (hown : w1.ownsRow w.heap.size 52 2 v' ((R.marks (l.take k)).length + 1) (mkCells (R.marks (l.take k)) ++ [.int .i64 m.1, .int .i64 m.2])) (hg : ((wr.drewN q).alloc o2).grownBy w1 v.ownBlock) : MarksAt w l (k + 1) v' w1 := by
  have hb1 : Below w.heap.size w (wr.drewN q) := below_drewN h.bel q
  refine ⟨by rw [hm, mkCells_snoc, List.length_append]; exact hown, (hb1.alloc hb1.size o2).grown hg (by have := h.bel.size; simp; omega) fun b hb => (h.own.lt b hb).1⟩
theorem marks_quiet {w wr : World} {l : List R.En} {k : Nat} {v : Value} (h : MarksAt w l k v wr) (hm : R.marks (l.take (k + 1)) = R.marks (l.take k)) (q : Nat) : MarksAt w l (k + 1) v (wr.drewN q) :=
  ⟨by rw [hm]; exact own_drewN h.own q, below_drewN h.bel q⟩
theorem readsE_form {w : World} {v : Value} {evs : List E.Ev} (h : ReadsE w v evs) : ∃ a n c, v = .slice a n c := by
  obtain ⟨a, c, rfl, _⟩ := h
  exact ⟨a, _, c, rfl⟩
theorem box_cells (wr : World) (cs : Array Value) (t : TypeId) (j : Nat) : (wr.alloc (.cells cs t)).cell? ⟨wr.heap.size, j, none⟩ = cs[j]? := by rw [World.cell?_alloc_new]

set_option maxHeartbeats 4000000 in
set_option maxRecDepth 100000 in
theorem Marks_l (es : List EV) (v : Value) (w : World) (hv : ReadsR w v es) (hl : es.length ≤ 1000) :
    Calls Try.prog 23 #[v] w fun r w' => ∃ u, r = .returned u ∧ ReadsM w' u (R.marks (ensOf es)) ∧ Below w.heap.size w w' := by
  obtain ⟨i0, hi, hz0, hz1, hz2⟩ := info_parts Try.infoMk
  obtain ⟨a, cap, rfl, hcp, _, hx⟩ := hv
  have HX := Lib.hid hx; clear hx
  obtain ⟨l, HL⟩ : ∃ l, Hid (ensOf es = l) := ⟨_, Lib.hid rfl⟩
  have HLL := Lib.hid (show l.length = es.length by rw [← HL.out, ensOf_len])
  have HLG : Hid (∀ i (h : i < es.length), l[i]'(by rw [HLL.out]; exact h) = es[i].1) := Lib.hid fun i h => by
    have := HL.out; subst this; simp
  rw [HL.out]
  clear HL
  go_enter Try.func23, Try.ntmps23
  go_wp2
  go_loopw [3, 8] (fun u i wr => ∃ k : Nat, i = .int .i64 k ∧ k ≤ es.length ∧ MarksAt w l k u wr) (fun _ i _ => es.length - (intOf i).toNat)
  case atStart => exact ⟨0, rfl, Nat.zero_le _, World.ownsRow_nil _ _ _ _, Below.refl _ _⟩
  case round =>
    obtain ⟨k, rfl, hk, hat⟩ := hrel
    have HAT := Lib.hid hat; clear hat
    by_cases hlt : k < es.length
    · obtain ⟨hre, -, b1, o1, rfl, hat7⟩ := HX.out k hlt
      have h7 := hat7.keep (below_keeps HAT.out.bel)
      obtain ⟨ea, en, ec, hu⟩ := readsE_form hre
      rw [hu] at h7
      clear hat7 hre hu
      have hi1 : (k : Int) < (es.length : Int) := by omega
      have hml := R.marks_len (l.take k)
      rw [List.length_take] at hml
      have HE := Lib.hid (HLG.out k hlt)
      have HMF : Hid (k = 0 → R.marks (l.take (k + 1)) = R.marks (l.take k) ++ [((es[k].1).epoch, (es[k].1).pos)]) := Lib.hid fun h => by
        subst h
        rw [← HE.out]
        exact R.marks_first (by rw [HLL.out]; exact hlt)
      have HMS : Hid (∀ j, k = j + 1 → ∃ (hj : j < es.length), ((es[k].1).epoch = (es[j].1).epoch → R.marks (l.take (k + 1)) = R.marks (l.take k)) ∧ (¬ (es[k].1).epoch = (es[j].1).epoch → R.marks (l.take (k + 1)) = R.marks (l.take k) ++ [((es[k].1).epoch, (es[k].1).pos)])) := Lib.hid fun j h => by
        subst h
        refine ⟨by omega, fun h => ?_, fun h => ?_⟩
        · exact R.marks_same (by rw [HLL.out]; exact hlt) (by rw [HE.out, HLG.out j (by omega)]; exact h)
        · rw [← HE.out]
          exact R.marks_new (by rw [HLL.out]; exact hlt) (by rw [HE.out, HLG.out j (by omega)]; exact h)
      clear HE
      generalize es[k].1 = e1 at *
      obtain ⟨pos, ep, st, ex, se, sq, evs⟩ := e1
      obtain ⟨c0, c1, c2, c3, c4, c5, c6⟩ := h7
      dsimp only at c0 c1 c2 c3 c4 c5 HMF HMS
      by_cases hk0 : k = 0
      · have HMN := Lib.hid (HMF.out hk0)
        subst hk0
        simp only [Nat.zero_mul, Nat.add_zero] at c0 c1 c2 c3 c4 c5 c6
        have HW : Hid (MarksAt w l 0 u3 (wr.alloc (.cells #[.int .i64 pos, .int .i64 ep, .string (B st), .int .i64 ex, .int .i64 se, .int .i64 sq, .slice ea en ec] 26))) := Lib.hid ⟨HAT.out.own.alloc _, HAT.out.bel.alloc HAT.out.bel.size _⟩
        go_wp2
        have z0 := box_cells wr #[.int .i64 pos, .int .i64 ep, .string (B st), .int .i64 ex, .int .i64 se, .int .i64 sq, .slice ea en ec] 26 0
        have z1 := box_cells wr #[.int .i64 pos, .int .i64 ep, .string (B st), .int .i64 ex, .int .i64 se, .int .i64 sq, .slice ea en ec] 26 1
        simp only [List.getElem?_toArray, List.getElem?_cons_zero, List.getElem?_cons_succ] at z0 z1
        clear c0 c1 c2 c3 c4 c5 c6 HAT
        generalize wr.alloc (.cells #[.int .i64 pos, .int .i64 ep, .string (B st), .int .i64 ex, .int .i64 se, .int .i64 sq, .slice ea en ec] 26) = W at *
        generalize wr.heap.size = gm at *
        have HAT := HW
        have hown := HAT.out.own
        have hsz := HAT.out.bel.size
        go_quiet (fail)
        go_wp2_with (at_builtin; refine wpList_append_own _ rfl _ _ 35 rfl w.heap.size 52 i0 _ 2 16 Try.underlying35 hi hz0 hz1 hz2 rfl (by decide) _ _ _ rfl ((own_drewN hown _).alloc _) ⟨W.heap.size, 0, none⟩ 1 1 [.int .i64 ep, .int .i64 pos] rfl rfl (World.news_of_block (cs := #[.int .i64 ep, .int .i64 pos]) (t := 52) (fr := (0, 0)) (heap_alloc_new (W.drewN _) _)) (by simp [Value.oneCell']) (by unfold maxLen; omega) (by omega) (by simp; omega) ?_; intro v' w1 hown' hgrow _)
        have HN := Lib.hid (marks_next HAT.out HMN.out hown' hgrow)
        clear hown' hgrow
        go_wp2
        go_roundw
        case rel => exact ⟨0 + 1, by go_num, by omega, HN.out⟩
        case measure => simp [intOf]; omega
      · obtain ⟨j, rfl⟩ : ∃ j, k = j + 1 := ⟨k - 1, by omega⟩
        obtain ⟨hj, hsame, hnew⟩ := HMS.out j rfl
        have HSAME := Lib.hid hsame
        have HNEW := Lib.hid hnew
        obtain ⟨-, -, b2, o2, hbe, h72⟩ := HX.out j hj
        cases hbe
        have d1 := (h72.keep (below_keeps (HAT.out.bel.alloc HAT.out.bel.size (.cells #[.int .i64 pos, .int .i64 ep, .string (B st), .int .i64 ex, .int .i64 se, .int .i64 sq, .slice ea en ec] 26)))).2.1
        clear hsame hnew HMS HMF h72
        have HW : Hid (MarksAt w l (j + 1) u3 (wr.alloc (.cells #[.int .i64 pos, .int .i64 ep, .string (B st), .int .i64 ex, .int .i64 se, .int .i64 sq, .slice ea en ec] 26))) := Lib.hid ⟨HAT.out.own.alloc _, HAT.out.bel.alloc HAT.out.bel.size _⟩
        have hji : (j : Int) < (es.length : Int) := by omega
        generalize (es[j].1).epoch = ep2 at *
        have hk0i : (((j + 1 : Nat) : Int) == 0) = false := beq_eq_false_iff_ne.2 (by omega)
        have hk0j : ((j : Int) + 1 == 0) = false := beq_eq_false_iff_ne.2 (by omega)
        go_wp2
        have z0 := box_cells wr #[.int .i64 pos, .int .i64 ep, .string (B st), .int .i64 ex, .int .i64 se, .int .i64 sq, .slice ea en ec] 26 0
        have z1 := box_cells wr #[.int .i64 pos, .int .i64 ep, .string (B st), .int .i64 ex, .int .i64 se, .int .i64 sq, .slice ea en ec] 26 1
        simp only [List.getElem?_toArray, List.getElem?_cons_zero, List.getElem?_cons_succ] at z0 z1
        clear c0 c1 c2 c3 c4 c5 c6 HAT
        generalize wr.alloc (.cells #[.int .i64 pos, .int .i64 ep, .string (B st), .int .i64 ex, .int .i64 se, .int .i64 sq, .slice ea en ec] 26) = W at *
        generalize wr.heap.size = gm at *
        have HAT := HW
        have hown := HAT.out.own
        have hsz := HAT.out.bel.size
        by_cases he : ep = ep2
        · have HMN := Lib.hid (HSAME.out he)
          have heb : (ep != ep2) = false := by simp [he]
          have hec : (ep == ep2) = true := by simp [he]
          clear he
          go_quiet (fail)
          go_wp2
          go_roundw
          case rel => exact ⟨j + 1 + 1, by go_num, by omega, marks_quiet HAT.out HMN.out _⟩
          case measure => simp [intOf]; omega
        · have HMN := Lib.hid (HNEW.out he)
          have heb : (ep != ep2) = true := by simp [he]
          have hec : (ep == ep2) = false := by simp [he]
          clear he
          go_quiet (fail)
          go_wp2_with (at_builtin; refine wpList_append_own _ rfl _ _ 35 rfl w.heap.size 52 i0 _ 2 16 Try.underlying35 hi hz0 hz1 hz2 rfl (by decide) _ _ _ rfl ((own_drewN hown _).alloc _) ⟨W.heap.size, 0, none⟩ 1 1 [.int .i64 ep, .int .i64 pos] rfl rfl (World.news_of_block (cs := #[.int .i64 ep, .int .i64 pos]) (t := 52) (fr := (0, 0)) (heap_alloc_new (W.drewN _) _)) (by simp [Value.oneCell']) (by unfold maxLen; omega) (by omega) (by simp; omega) ?_; intro v' w1 hown' hgrow _)
          have HN := Lib.hid (marks_next HAT.out HMN.out hown' hgrow)
          clear hown' hgrow
          go_wp2
          go_roundw
          case rel => exact ⟨j + 1 + 1, by go_num, by omega, HN.out⟩
          case measure => simp [intOf]; omega
    · have HE : Hid (ReadsM wr u3 (R.marks l)) := Lib.hid (by
        have := readsM_own HAT.out.own
        rwa [List.take_of_length_le (by rw [HLL.out]; omega)] at this)
      have HBE := Lib.hid HAT.out.bel
      clear HAT
      go_wp2
      go_ret
      exact ⟨_, rfl, HE.out, HBE.out⟩
end Go.Proofs.Ytfhopgficckjkaa
