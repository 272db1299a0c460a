/-
  Own texts, joined: ManCode2 ManCode3
-/
import Derived.Test.YtmfhipjceeijmaaGreatBun14
import Derived.Test.YtmfhipjceeijmaaGreatBun11
import Derived.Deep.AppendLies
import Derived.Deep.RegionLaw

/-
  The manifest package: manifestOf, bytesOf, extend, replace, Save, Load.
-/
namespace Go.Proofs.YtmfhipjceeijmaaGreat.A
open Go.RowKit Go.Deep
open D (Tx ReadsI i64B readsI_below dP)
attribute [local go_sem] ext_Bd ext_Bl ext_Bt toList_B add_B size_B get_Bt

theorem Tryz.infoIntA : (Tryz.prog.info? 3).map (fun i => (i.zero, i.size, i.bytes)) = some (some (.int .i64 0), 1, 8) := by kernel_rfl
def intCells (l : List Nat) : List Value := l.map fun n : Nat => Value.int .i64 (n : Int)
theorem intCells_len (l : List Nat) : (intCells l).length = l.length := by simp [intCells]

theorem readsI_own {w : World} {base : Nat} {v : Value} {xs : List Nat} (h : w.ownsRow base 3 1 v xs.length (intCells xs)) (hx : ∀ n ∈ xs, n ≤ 1099511627776) : ReadsI w v (castL xs) := by
  obtain ⟨a, cap, hv, hr⟩ := reads_own h
  refine ⟨a, cap, by rw [hv, castL_len, intCells_len], fun i hi => ?_⟩
  rw [castL_len] at hi
  obtain ⟨b, off, ha, hc⟩ := hr i (by rw [intCells_len]; exact hi)
  have e : (castL xs)[i]'(by rw [castL_len]; exact hi) = (xs[i] : Int) := by simp [castL]
  have := hx xs[i] (List.getElem_mem hi)
  rw [e]
  refine ⟨⟨by omega, by omega⟩, b, off, ha, ?_⟩
  rw [hc]
  simp [intCells, List.getElem?_eq_getElem hi]
/-- The manifest that is being read: its block, its row, the two variables, the result's block. -/
structure MoAt (w0 : World) (rb g1 g2 gm : Nat) (n1 : Nat) (v : Value) (xs : List Nat) (st : Stt) (w : World) : Prop where
  ord : w0.heap.size ≤ rb ∧ rb < g1 ∧ g1 < g2 ∧ g2 < gm ∧ gm < w.heap.size
  res : w.heap[rb]? = some (.cells #[.int .i64 0, .slice none 0 0] 37 (0, 0))
  nx : NxAt g1 g2 st w
  blk : w.heap[gm]? = some (.cells #[.int .i64 (n1 : Int), v] 37 (0, 0))
  own : w.ownsRow (gm + 1) 3 1 v xs.length (intCells xs)
  bel : Below w0.heap.size w0 w
theorem twoA {w : World} {g : Nat} {x y : Value} {t : TypeId} (h : w.heap[g]? = some (.cells #[x, y] t (0, 0))) (a b : Value) : ((w.setCell ⟨g, 0, none⟩ a).setCell ⟨g, 1, none⟩ b).cell? ⟨g, 0, none⟩ = some a ∧ ((w.setCell ⟨g, 0, none⟩ a).setCell ⟨g, 1, none⟩ b).cell? ⟨g, 1, none⟩ = some b := by
  have h1 := setA (setA h 0 a) 1 b
  exact ⟨by rw [blkA h1]; rfl, by rw [blkA h1]; rfl⟩
theorem belowA {w0 w : World} {g : Nat} (h : Below w0.heap.size w0 w) (hg : w0.heap.size ≤ g) (a b : Value) : Below w0.heap.size w0 ((w.setCell ⟨g, 0, none⟩ a).setCell ⟨g, 1, none⟩ b) :=
  ⟨h.os, h.tape, h.output, by simpa using h.size, fun k hk => by rw [Below.heap_setCell _ _ _ _ (by show k ≠ g; omega), Below.heap_setCell _ _ _ _ (by show k ≠ g; omega)]; exact h.block k hk⟩
section
variable {w0 w w' : World} {rb g1 g2 gm n1 : Nat} {v : Value} {xs : List Nat} {st st2 : Stt}
theorem own_but {w w' : World} {base : Nat} {e : TypeId} {v : Value} {n : Nat} {ys : List Value} {S : Nat → Prop} (h : w.ownsRow base e 1 v n ys) (hb : D.But S w w') (hs : ∀ k, S k → k < base) : w'.ownsRow base e 1 v n ys := by
  refine ⟨h.1, ?_⟩
  rcases h.2 with h2 | ⟨g, cap, cur, h3, h4, h5, h6⟩
  · exact .inl h2
  · exact .inr ⟨g, cap, cur, h3, h4, (hb.block g (lt_of_block h5) fun hk => by have := hs g hk; omega).trans h5, h6⟩
theorem own_mono {w : World} {base base' : Nat} {e : TypeId} {v : Value} {n : Nat} {ys : List Value} (h : w.ownsRow base e 1 v n ys) (hb : base' ≤ base) : w.ownsRow base' e 1 v n ys := by
  refine ⟨h.1, ?_⟩
  rcases h.2 with h2 | ⟨g, cap, cur, h3, h4, h5⟩
  · exact .inl h2
  · exact .inr ⟨g, cap, cur, h3, by omega, h5⟩
theorem MoAt.drew (h : MoAt w0 rb g1 g2 gm n1 v xs st w) : MoAt w0 rb g1 g2 gm n1 v xs st w.drew := ⟨h.ord, h.res, ⟨h.nx.ne, h.nx.left, h.nx.good⟩, h.blk, h.own.drew, h.bel.drew⟩
theorem MoAt.called (h : MoAt w0 rb g1 g2 gm n1 v xs st w) (hn : NxAt g1 g2 st2 w') (hb : D.But (fun k => k = g1 ∨ k = g2) w w') : MoAt w0 rb g1 g2 gm n1 v xs st2 w' := by
  obtain ⟨o1, o2, o3, o4, o5⟩ := h.ord
  have hbs := hb.size
  refine ⟨⟨o1, o2, o3, o4, by omega⟩, (hb.block rb (by omega) (by omega)).trans h.res, hn, (hb.block gm o5 (by omega)).trans h.blk, own_but h.own hb (fun k hk => by omega), ⟨hb.os.trans h.bel.os, hb.tape.trans h.bel.tape, hb.output.trans h.bel.output, Nat.le_trans h.bel.size hbs, fun k hk => ?_⟩⟩
  exact (hb.block k (by have := h.bel.size; omega) (by omega)).trans (h.bel.block k hk)
theorem MoAt.alloc (h : MoAt w0 rb g1 g2 gm n1 v xs st w) (o : Obj) : MoAt w0 rb g1 g2 gm n1 v xs st (w.alloc o) := by
  obtain ⟨o1, o2, o3, o4, o5⟩ := h.ord
  refine ⟨⟨o1, o2, o3, o4, by rw [World.size_alloc]; omega⟩, (Below.heap_alloc _ _ _ (by omega)).trans h.res, h.nx.keep (Below.heap_alloc _ _ _ (by omega)) (Below.heap_alloc _ _ _ (by omega)), (Below.heap_alloc _ _ _ o5).trans h.blk, h.own.alloc o, h.bel.alloc h.bel.size o⟩
theorem MoAt.grown {v2 : Value} {y : Nat} (h : MoAt w0 rb g1 g2 gm n1 v xs st w) (ho : w'.ownsRow (gm + 1) 3 1 v2 (xs.length + 1) (intCells xs ++ [.int .i64 (y : Int)])) (hg : w.grownBy w' v.ownBlock) :
    MoAt w0 rb g1 g2 gm n1 v2 (xs ++ [y]) st (w'.setCell ⟨gm, 1, none⟩ v2) ∧ w'.cell? ⟨gm, 1, none⟩ = some v ∧ w'.frozen? ⟨gm, 1, none⟩ = false := by
  obtain ⟨o1, o2, o3, o4, o5⟩ := h.ord
  have hv : ∀ k, k ≤ gm → some k ≠ v.ownBlock := fun k hk e0 => by have e := e0.symm; exact absurd e fun e => by have := (h.own.lt k e).1; omega
  have hv2 : ∀ k, k ≤ gm → v2.ownBlock ≠ some k := fun k hk e => by have := (ho.lt k e).1; omega
  have hb : w'.heap[gm]? = some (.cells #[.int .i64 (n1 : Int), v] 37 (0, 0)) := (hg.block gm o5 (hv gm (Nat.le_refl _))).trans h.blk
  have hs : ∀ k, k ≠ gm → (w'.setCell ⟨gm, 1, none⟩ v2).heap[k]? = w'.heap[k]? := fun k hk => Below.heap_setCell _ _ _ _ (by exact hk)
  refine ⟨⟨⟨o1, o2, o3, o4, by have := hg.size; simp; omega⟩, ?_, ?_, setA hb 1 v2, ?_, ?_⟩, by rw [blkA hb]; rfl, frzA hb 1⟩
  · rw [hs rb (by omega)]
    exact (hg.block rb (by omega) (hv rb (by omega))).trans h.res
  · exact h.nx.keep (by rw [hs g1 (by omega)]; exact hg.block g1 (by omega) (hv g1 (by omega))) (by rw [hs g2 (by omega)]; exact hg.block g2 (by omega) (hv g2 (by omega)))
  · have h2 := ho.kept (Lib.grownBy_setCell w' gm 1 v2) (.inr (hv2 gm (Nat.le_refl _)))
    have e1 : (xs ++ [y]).length = xs.length + 1 := by simp
    have e2 : intCells (xs ++ [y]) = intCells xs ++ [.int .i64 (y : Int)] := by simp [intCells]
    rw [e1, e2]
    exact h2
  · have hb2 : Below w0.heap.size w0 w' := h.bel.grown hg h.bel.size fun b hb => by have := (h.own.lt b hb).1; omega
    exact ⟨hb2.os, hb2.tape, hb2.output, by simpa using hb2.size, fun k hk => by rw [hs k (by omega)]; exact hb2.block k hk⟩
end
def loadR (o : Option (Nat × List Nat)) : Nat × Nat × List Nat := match o with | none => (2, 0, []) | some x => (0, x)
theorem loadP_of {p : Tx} {e n : Nat} {l : List Nat} (H : loadR (loadP p) = (e, n, l)) {n1 c : Nat} {s1 s2 : Stt} (h1 : step (p, true) = (n1, s1)) (h2 : step s1 = (c, s2)) :
    (30 < c ∧ e = 2 ∧ n = 0 ∧ l = []) ∨ (c ≤ 30 ∧ ∃ xs s3, steps c s2 = (xs, s3) ∧ ((s3 = (([] : Tx), true) ∧ right n1 (castL xs) = true ∧ e = 0 ∧ n = n1 ∧ l = xs) ∨ (¬ (s3 = (([] : Tx), true) ∧ right n1 (castL xs) = true) ∧ e = 2 ∧ n = 0 ∧ l = []))) := by
  unfold loadP at H
  rw [h1] at H
  dsimp only at H
  rw [h2] at H
  dsimp only at H
  by_cases hc : 30 < c
  · rw [if_pos hc] at H
    cases H
    exact .inl ⟨hc, rfl, rfl, rfl⟩
  · rw [if_neg hc] at H
    obtain ⟨⟨xs, s3⟩, h3⟩ : ∃ q, steps c s2 = q := ⟨_, rfl⟩
    rw [h3] at H
    dsimp only at H
    refine .inr ⟨by omega, xs, s3, h3, ?_⟩
    by_cases hr : s3 = (([] : Tx), true) ∧ right n1 (castL xs) = true
    · rw [if_pos hr] at H
      cases H
      exact .inl ⟨hr.1, hr.2, rfl, rfl, rfl⟩
    · rw [if_neg hr] at H
      cases H
      exact .inr ⟨hr, rfl, rfl, rfl⟩
theorem steps_bound : ∀ (k : Nat) (s : Stt), ∀ n ∈ (steps k s).1, n ≤ 1099511627776
  | 0, _, n, h => by cases h
  | k + 1, s, n, h => by
    rw [steps] at h
    rcases List.mem_cons.1 h with rfl | h
    · exact (step_le s).1
    · exact steps_bound k _ n h
set_option maxHeartbeats 4000000 in
set_option maxRecDepth 100000 in
theorem manifestOf_l (p : Tx) (e n : Nat) (l : List Nat) (w : World) (hp : p.length ≤ 100000000) (H : loadR (loadP p) = (e, n, l)) :
    Calls Tryz.prog 39 #[.string (B p)] w fun x w' => (∃ v, x = .returned (.tuple #[.agg #[.int .i64 (n : Int), v], .int .i64 (e : Int)]) ∧ w'.ownsRow w.heap.size 3 1 v l.length (intCells l)) ∧ Below w.heap.size w w' := by
  obtain ⟨i0, hi, hz0, hz1, hz2⟩ := info_parts Tryz.infoIntA
  obtain ⟨⟨n1, s1⟩, hs1⟩ : ∃ q, step (p, true) = q := ⟨_, rfl⟩
  obtain ⟨⟨c, s2⟩, hs2⟩ : ∃ q, step s1 = q := ⟨_, rfl⟩
  have HCASE := Lib.hid (loadP_of H hs1 hs2)
  have hb1 := step_le (p, true)
  have hb2 := step_le s1
  rw [hs1] at hb1
  rw [hs2] at hb2
  dsimp only at hb1 hb2
  have hl1 : s1.1.length ≤ 100000000 := by omega
  have hl2 : s2.1.length ≤ 100000000 := by omega
  have hn1 := hb1.1
  have hc1 := hb2.1
  have HS1 := Lib.hid hs1
  have HS2 := Lib.hid hs2
  clear hb1 hb2 hs1 hs2 H
  obtain ⟨rb, hrb⟩ : ∃ rb, w.heap.size = rb := ⟨_, rfl⟩
  have HRB := Lib.hid hrb
  have HN0 := Lib.hid (numbers_l p (w.alloc (.cells #[.int .i64 0, .slice none 0 0] 37)))
  have HR0 := Lib.hid (heap_alloc_new w (.cells #[.int .i64 0, .slice none 0 0] 37))
  have HB0 := Lib.hid ((Below.refl w.heap.size w).alloc (Nat.le_refl _) (.cells #[.int .i64 0, .slice none 0 0] 37))
  have HZ0 : Hid ((w.alloc (.cells #[.int .i64 0, .slice none 0 0] 37)).heap.size = rb + 1) := Lib.hid (by simp [hrb])
  rw [hrb] at HR0
  clear hrb
  go_enter Tryz.func39, Tryz.ntmps39
  go_wp2_with fail
  generalize w.alloc (.cells #[.int .i64 0, .slice none 0 0] 37) = W at *
  rw [HRB.out]
  refine HN0.out.mono ?_
  rintro x w2 ⟨rfl, hnx, hz2', hb2⟩
  rw [HZ0.out] at hnx hz2'
  rw [HZ0.out]
  have HNX := Lib.hid hnx
  have HB2 := Lib.hid (HB0.out.trans (hb2.mono HB0.out.size))
  have HR2 := Lib.hid ((hb2.block rb (by rw [HZ0.out]; omega)).trans HR0.out)
  have HZ2 := Lib.hid hz2'
  clear hnx hb2 hz2' HN0 HR0 HB0 HZ0
  go_wp2_with fail
  refine (next_l (rb + 1) (rb + 1 + 1) (p, true) n1 s1 w2 HNX.out hp HS1).mono ?_
  rintro x w3 ⟨rfl, hnx3, hbut3⟩
  have hal := heap_alloc_new w3 (.cells #[.int .i64 (n1 : Int), .slice none 0 0] 37)
  have hsz3 : rb + 1 + 2 ≤ w3.heap.size := by have := hbut3.size; rw [HZ2.out] at this; omega
  have HMO : Hid (MoAt w rb (rb + 1) (rb + 1 + 1) w3.heap.size n1 (.slice none 0 0) [] s1 (w3.alloc (.cells #[.int .i64 (n1 : Int), .slice none 0 0] 37))) := Lib.hid (by
    have hb3 : Below w.heap.size w w3 := ⟨hbut3.os.trans HB2.out.os, hbut3.tape.trans HB2.out.tape, hbut3.output.trans HB2.out.output, Nat.le_trans HB2.out.size hbut3.size, fun k hk => (hbut3.block k (by have := HB2.out.size; omega) (by have := HRB.out; omega)).trans (HB2.out.block k hk)⟩
    refine ⟨⟨by rw [HRB.out]; omega, by omega, by omega, by omega, by simp⟩, ?_, hnx3.keep (Below.heap_alloc _ _ _ (by omega)) (Below.heap_alloc _ _ _ (by omega)), hal, ⟨rfl, .inl ⟨rfl, rfl⟩⟩, hb3.alloc hb3.size _⟩
    rw [Below.heap_alloc _ _ _ (by omega)]
    exact (hbut3.block rb (by rw [HZ2.out]; omega) (by omega)).trans HR2.out)
  obtain ⟨gm, hgm⟩ : ∃ gm, w3.heap.size = gm := ⟨_, rfl⟩
  rw [hgm] at HMO
  have HGM := Lib.hid hgm
  clear hgm hal hnx3 hbut3 hsz3 HNX HB2 HR2 HZ2
  go_upto_region 3 with (fail)
  rw [HGM.out]
  generalize w3.alloc (.cells #[.int .i64 (n1 : Int), .slice none 0 0] 37) = W3 at *
  clear HGM
  go_wp2_with fail
  refine (next_l (rb + 1) (rb + 1 + 1) s1 c s2 W3 HMO.out.nx hl1 HS2).mono ?_
  rintro x w4 ⟨rfl, hnx4, hbut4⟩
  have HM4 := Lib.hid (HMO.out.called hnx4 hbut4)
  clear hnx4 hbut4 HMO
  rcases HCASE.out with ⟨h30, rfl, rfl, rfl⟩ | ⟨h30, xs, s3, hst, hcase⟩
  · have h30i : (30 : Int) < (c : Int) := by omega
    have f0 := frzA HM4.out.res 0
    have f1 := frzA (setA HM4.out.res 0 (.int .i64 0)) 1
    have r0 := blkA HM4.out.res 0
    have r1 := blkA HM4.out.res 1
    simp only [List.getElem?_toArray, List.getElem?_cons_zero, List.getElem?_cons_succ] at r0 r1
    obtain ⟨e0, e1⟩ := twoA HM4.out.res (.int .i64 0) (.slice none 0 0)
    have HFB := Lib.hid (belowA HM4.out.bel HM4.out.ord.1 (.int .i64 0) (.slice none 0 0))
    clear HCASE
    go_wp2
    exact bodyPost_ret (v := .tuple #[.agg #[.int .i64 0, .slice none 0 0], .int .i64 2]) (by simp [results, Tryz.results39, go_sem, e0, e1]) rfl ⟨⟨_, rfl, ⟨rfl, .inl ⟨rfl, rfl⟩⟩⟩, HFB.out⟩
  · have h30i : ¬ (30 : Int) < (c : Int) := by omega
    have HST := Lib.hid hst
    have HC := Lib.hid hcase
    clear HCASE hst hcase
    go_wp2
    go_loopw [22] (fun i wr => ∃ (k : Nat) (v : Value) (ys : List Nat) (st : Stt), i = .int .i64 k ∧ k ≤ c ∧ Hid (steps k s2 = (ys, st)) ∧ Hid (MoAt w rb (rb + 1) (rb + 1 + 1) gm n1 v ys st wr)) (fun i _ => c - (intOf i).toNat)
    case atStart => exact ⟨0, _, [], s2, rfl, Nat.zero_le _, Lib.hid rfl, HM4⟩
    case round =>
      obtain ⟨k, v, ys, st, rfl, hk, HSK, HMK⟩ := hrel
      have HLEN : Hid (ys.length = k) := Lib.hid (by have := steps_len k s2; rw [HSK.out] at this; exact this)
      by_cases hlt : k < c
      · have hi1 : (k : Int) < (c : Int) := by omega
        obtain ⟨⟨y, st2⟩, hst2⟩ : ∃ q, step st = q := ⟨_, rfl⟩
        have HSN : Hid (steps (k + 1) s2 = (ys ++ [y], st2)) := Lib.hid (by rw [steps_snoc, HSK.out]; dsimp only; rw [hst2])
        have HS := Lib.hid hst2
        have hstl : st.1.length ≤ 100000000 := by have := steps_short k s2; rw [HSK.out] at this; dsimp only at this; omega
        have hyl : ys.length ≤ 30 := by have := HLEN.out; omega
        have c1 := blkA HMK.out.blk 1
        simp only [List.getElem?_toArray, List.getElem?_cons_zero, List.getElem?_cons_succ] at c1
        clear hst2
        go_wp2
        go_region_law
          (first
            | (refine step_append_lies _ (by rfl) _ _ _ (by rfl) (gm + 1) 3 i0 _ 1 8 Tryz.underlying33 hi hz0 hz1 hz2 rfl (by omega) v ys.length (intCells ys) (by rfl) (by first | exact hm4.own.alloc _ | exact (hm4.own.alloc _).drew | exact (hm4.drew.own.alloc _))
                ⟨w4.heap.size, 0, none⟩ 1 1 [.int .i64 (y : Int)] (by rfl) (by rfl) (World.news_of_block (cs := #[.int .i64 (y : Int)]) (t := 3) (fr := (0, 0)) (heap_alloc_new w4 _)) (by simp [Value.oneCell'])
                (by omega) (by unfold maxLen; omega) (by omega) (by simp; omega) (w4.heap.size + 1) (by simp) ?_; intro gg cap w5 hown5 hgrow5 hat5 hlt5; have hmm := MoAt.grown (by first | exact hm4.alloc _ | exact (hm4.alloc _).drew | exact hm4.drew.alloc _) hown5 hgrow5; obtain ⟨hm5, d1, f1⟩ := hmm)
            | (go_simp; with_reducible refine (next_l (rb + 1) (rb + 1 + 1) st y st2 _ (by first | exact HMK.out.nx | exact HMK.out.drew.nx) hstl HS).mono ?_; rintro x w4 ⟨rfl, hnx4, hbut4⟩; have hm4 := MoAt.called (by first | exact HMK.out | exact HMK.out.drew | exact HMK.out.drew.drew) hnx4 hbut4; have d4 := blkA hm4.blk 1; simp only [List.getElem?_toArray, List.getElem?_cons_zero, List.getElem?_cons_succ] at d4; have o4 := hm4.ord))
        all_goals
          have HMN := Lib.hid hm5
          clear hm5 hm4 hown5 hgrow5 d1 f1 d4 o4 hnx4 hbut4
          go_wp2
          go_roundw
          case rel => exact ⟨k + 1, _, ys ++ [y], st2, by go_num, by omega, HSN, HMN⟩
          case measure => simp [intOf]; omega
      · have hkc : k = c := by omega
        subst hkc
        have hex := HST.out
        rw [HSK.out] at hex
        cases hex
        have HBD : Hid (∀ n ∈ xs, n ≤ 1099511627776) := Lib.hid (by have := steps_bound k s2; rw [HSK.out] at this; exact this)
        have HRI := Lib.hid (readsI_own HMK.out.own HBD.out)
        obtain ⟨va, vc, rfl⟩ : ∃ a c, v = .slice a (castL xs).length c := by obtain ⟨a, c, h, _⟩ := HRI.out; exact ⟨a, c, h⟩
        have c0 := blkA HMK.out.blk 0
        have c1 := blkA HMK.out.blk 1
        simp only [List.getElem?_toArray, List.getElem?_cons_zero, List.getElem?_cons_succ] at c0 c1
        have HFIN : Hid (∀ (w' : World) (x y : Value), Below wr.heap.size wr w' → (w'.heap[rb]? = some (.cells #[.int .i64 0, .slice none 0 0] 37 (0, 0)) ∧ Below w.heap.size w ((w'.setCell ⟨rb, 0, none⟩ x).setCell ⟨rb, 1, none⟩ y) ∧ ((w'.setCell ⟨rb, 0, none⟩ x).setCell ⟨rb, 1, none⟩ y).ownsRow w.heap.size 3 1 (.slice va (castL xs).length vc) xs.length (intCells xs))) := Lib.hid fun w' x y hb => by
          obtain ⟨o1, o2, o3, o4, o5⟩ := HMK.out.ord
          refine ⟨(hb.block rb (by omega)).trans HMK.out.res, belowA (HMK.out.bel.trans (hb.mono HMK.out.bel.size)) o1 x y, ?_⟩
          have h1 := own_below HMK.out.own hb
          have hne : ∀ q, (Value.slice va (castL xs).length vc).ownBlock = some q → rb ≠ q := fun q e => by have := (HMK.out.own.lt q e).1; omega
          have h2 := h1.kept (Lib.grownBy_setCell w' rb 0 x) (.inr fun e => hne _ e rfl)
          have h3 := h2.kept (Lib.grownBy_setCell _ rb 1 y) (.inr fun e => hne _ e rfl)
          exact own_mono h3 (by omega)
        rcases HC.out with ⟨hs, hr, rfl, hnn, hll⟩ | ⟨hbad, rfl, rfl, rfl⟩
        · obtain rfl := hnn.symm
          obtain rfl := hll.symm
          have HO : Hid (decide (s3 = (([] : Tx), true)) = true) := Lib.hid (by rw [decide_eq_true_eq]; exact hs)
          have HR := Lib.hid hr
          clear hs hr HC
          go_wp2_with (first
            | (refine (over_l (rb + 1) (rb + 1 + 1) s3 true _ HMK.out.nx HO).mono ?_; rintro x w5 ⟨rfl, rfl⟩)
            | (go_at_call 15; refine (Right_l (n1 : Int) (castL xs) _ _ true HRI.out HR).mono ?_; rintro x w6 ⟨rfl, hb6⟩; have k0 := keepsA hb6 _ _ c0; have k1 := keepsA hb6 _ _ c1; have hfin := HFIN.out w6 (.int .i64 (n1 : Int)) (.slice va (castL xs).length vc) hb6; obtain ⟨hres6, hbel6, hown6⟩ := hfin; have r0 := blkA hres6 0; have r1 := blkA hres6 1; simp only [List.getElem?_toArray, List.getElem?_cons_zero, List.getElem?_cons_succ] at r0 r1; have f0 := frzA hres6 0; have f1 := frzA (setA hres6 0 (.int .i64 (n1 : Int))) 1))
          obtain ⟨e0, e1⟩ := twoA hres6 (.int .i64 (n1 : Int)) (.slice va (castL xs).length vc)
          refine bodyPost_ret (v := .tuple #[.agg #[.int .i64 (n1 : Int), .slice va (castL xs).length vc], .int .i64 0]) (by simp [results, Tryz.results39, go_sem, e0, e1]) rfl ⟨⟨_, rfl, hown6⟩, hbel6⟩
        · by_cases hs : s3 = (([] : Tx), true)
          · have HO : Hid (decide (s3 = (([] : Tx), true)) = true) := Lib.hid (by rw [decide_eq_true_eq]; exact hs)
            have HR : Hid (right (n1 : Int) (castL xs) = false) := Lib.hid (by
              cases hr : right (n1 : Int) (castL xs)
              · rfl
              · exact absurd ⟨hs, hr⟩ hbad)
            clear hs hbad HC
            go_wp2_with (first
              | (refine (over_l (rb + 1) (rb + 1 + 1) s3 true _ HMK.out.nx HO).mono ?_; rintro x w5 ⟨rfl, rfl⟩)
              | (go_at_call 15; refine (Right_l (n1 : Int) (castL xs) _ _ false HRI.out HR).mono ?_; rintro x w6 ⟨rfl, hb6⟩; have hfin := HFIN.out w6 (.int .i64 0) (.slice none 0 0) hb6; obtain ⟨hres6, hbel6, hown6⟩ := hfin; have r0 := blkA hres6 0; have r1 := blkA hres6 1; simp only [List.getElem?_toArray, List.getElem?_cons_zero, List.getElem?_cons_succ] at r0 r1; have f0 := frzA hres6 0; have f1 := frzA (setA hres6 0 (.int .i64 0)) 1))
            obtain ⟨e0, e1⟩ := twoA hres6 (.int .i64 0) (.slice none 0 0)
            exact bodyPost_ret (v := .tuple #[.agg #[.int .i64 0, .slice none 0 0], .int .i64 2]) (by simp [results, Tryz.results39, go_sem, e0, e1]) rfl ⟨⟨_, rfl, ⟨rfl, .inl ⟨rfl, rfl⟩⟩⟩, hbel6⟩
          · have HO : Hid (decide (s3 = (([] : Tx), true)) = false) := Lib.hid (decide_eq_false hs)
            have hfin := HFIN.out wr (.int .i64 0) (.slice none 0 0) (Below.refl _ _)
            obtain ⟨hres6, hbel6, hown6⟩ := hfin
            have r0 := blkA hres6 0
            have r1 := blkA hres6 1
            simp only [List.getElem?_toArray, List.getElem?_cons_zero, List.getElem?_cons_succ] at r0 r1
            have f0 := frzA hres6 0
            have f1 := frzA (setA hres6 0 (.int .i64 0)) 1
            clear hs hbad HC
            have HH := Lib.hid (And.intro hres6 hbel6)
            have HNX := Lib.hid HMK.out.nx
            clear hres6 hbel6 hown6 HFIN
            go_wp2_with (refine (over_l (rb + 1) (rb + 1 + 1) s3 false _ HNX.out HO).mono ?_; rintro x wr ⟨rfl, rfl⟩)
            obtain ⟨e0, e1⟩ := twoA HH.out.1 (.int .i64 0) (.slice none 0 0)
            exact bodyPost_ret (v := .tuple #[.agg #[.int .i64 0, .slice none 0 0], .int .i64 2]) (by simp [results, Tryz.results39, go_sem, e0, e1]) rfl ⟨⟨_, rfl, ⟨rfl, .inl ⟨rfl, rfl⟩⟩⟩, HH.out.2⟩
end Go.Proofs.YtmfhipjceeijmaaGreat.A

/-
  The manifest package: bytesOf, extend, replace, Save, Load.
-/
namespace Go.Proofs.YtmfhipjceeijmaaGreat.A
open Go.RowKit
open D (Tx ReadsI i64B readsI_below dP)
attribute [local go_sem] ext_Bd ext_Bl ext_Bt toList_B add_B size_B get_Bt

section
variable (C : D.DC) {bs : Nat} {w : World} {p room : Nat} {l : List D.F} {S : Nat → Prop}
set_option maxRecDepth 100000 in
set_option maxHeartbeats 1000000 in
theorem bytesOf_l (nm s : Tx) (e : Nat) (b : Bool) (hA : C.At bs w p room l S) (hI : D.Inv room l) (hroom : room ≤ 100000000) (hnm : nm.length ≤ 14) (H : D.read nm l = (s, e)) (Hb : Hid (decide (e = 0) = b)) :
    Calls Tryz.prog 37 #[dP p, .string (B nm)] w fun x w' => x = .returned (.tuple #[.string (B s), .bool b]) ∧ Below w.heap.size w w' := by
  have HRD := Lib.hid (C.read nm s e hA hI (by omega) (by omega) H)
  clear hA hI H
  by_cases h0 : e = 0
  · subst h0
    have HB : Hid (b = true) := Lib.hid (by rw [← Hb.out]; rfl)
    clear Hb
    go_enter Tryz.func37, Tryz.ntmps37
    go_wp2_with fail
    refine HRD.out.mono ?_
    rintro x w1 ⟨rfl, hb1⟩
    go_wp2
    go_ret2
    rw [HB.out]
    exact ⟨rfl, hb1⟩
  · have HB : Hid (b = false) := Lib.hid (by rw [← Hb.out]; exact decide_eq_false h0)
    have hei : ((e : Int) == 0) = false := beq_eq_false_iff_ne.2 (by omega)
    clear Hb
    go_enter Tryz.func37, Tryz.ntmps37
    go_wp2_with fail
    refine HRD.out.mono ?_
    rintro x w1 ⟨rfl, hb1⟩
    go_wp2
    go_ret2
    rw [HB.out]
    exact ⟨by first | rfl | (simp [hei]; omega), hb1⟩
set_option maxRecDepth 100000 in
set_option maxHeartbeats 1000000 in
theorem extend_l (nm pl : Tx) (e : Nat) (l2 : List D.F) (hA : C.At bs w p room l S) (hI : D.Inv room l) (hroom : room ≤ 100000000) (hnm : nm.length ≤ 14) (hg : F.good pl) (H : D.append room nm (F.frame pl) l = (e, l2)) :
    Calls Tryz.prog 73 #[dP p, .string (B nm), .string (B pl)] w fun x w' => x = .returned (.int .i64 (e : Int)) ∧ (∃ S2, C.At bs w' p room l2 S2 ∧ D.Grow S w S2) ∧ D.But S w w' := by
  have HP := Lib.hid (FPut_ok pl w hg)
  have hfl : (F.frame pl).length ≤ 8008 := by rw [F.frame_len]; have := hg.2; omega
  have HE := Lib.hid H
  have HI := Lib.hid hI
  have HA := Lib.hid hA
  clear H hI hA hg
  generalize F.frame pl = s at *
  go_enter Tryz.func73, Tryz.ntmps73
  go_wp2_with fail
  refine HP.out.mono ?_
  rintro x w1 ⟨rfl, hb1⟩
  have HA1 := Lib.hid (C.below HA.out hb1)
  have HB1 := Lib.hid hb1
  clear hb1
  go_wp2_with fail
  refine (C.append nm s e l2 HA1.out HI.out (by omega) (by omega) (by omega) HE.out).mono ?_
  rintro x w2 ⟨rfl, ⟨S2, hA2, hg2⟩, hb2⟩
  have HR := Lib.hid (show (∃ S2, C.At bs w2 p room l2 S2 ∧ D.Grow S w S2) ∧ D.But S w w2 from ⟨⟨S2, hA2, hg2.wide HB1.out.size⟩, (D.But.of_below HB1.out).trans hb2⟩)
  clear hA2 hg2 hb2
  go_wp2
  go_ret
  exact ⟨rfl, HR.out⟩
theorem delete_is (n : Tx) (l : List D.F) : ∃ x, D.delete n l = (x, D.del n l) := by
  unfold D.delete
  cases h : D.find n l with
  | none => exact ⟨6, by rw [D.del_none h]⟩
  | some f => exact ⟨0, rfl⟩
theorem replaceD_of {room : Nat} {nm pl : Tx} {l l2 la : List D.F} {e e1 : Nat} (ha : D.append room temp (F.frame pl) (D.del temp l) = (e1, la)) (H : replaceD room nm pl l = (e, l2)) :
    (e1 = 0 ∧ ∃ l3, D.sync temp la = (0, l3) ∧ D.rename temp nm l3 = (e, l2)) ∨ (e1 ≠ 0 ∧ e = e1 ∧ l2 = D.del temp l ∧ la = D.del temp l) := by
  unfold replaceD at H
  rw [ha] at H
  dsimp only at H
  by_cases h0 : e1 = 0
  · rw [if_pos h0] at H
    subst h0
    have hz := append_zero (room := room) (nm := temp) (s := F.frame pl) (l := D.del temp l) (by rw [ha])
    rw [ha, D.find_del] at hz
    dsimp only at hz
    have hs : D.sync temp la = (0, D.put (full temp (F.frame pl)) (D.del temp l)) := by rw [hz]; exact sync_put
    refine .inl ⟨rfl, _, hs, ?_⟩
    rw [hs] at H
    exact H
  · rw [if_neg h0] at H
    have h2 := append_err (room := room) (nm := temp) (s := F.frame pl) (l := D.del temp l) (by rw [ha]; exact h0)
    rw [ha] at h2
    cases H
    exact .inr ⟨h0, rfl, rfl, h2⟩
set_option maxRecDepth 100000 in
set_option maxHeartbeats 2000000 in
theorem replace_l (nm pl : Tx) (e : Nat) (l2 : List D.F) (hA : C.At bs w p room l S) (hI : D.Inv room l) (hroom : room ≤ 100000000) (hnm : nm.length ≤ 14) (hg : F.good pl) (H : replaceD room nm pl l = (e, l2)) :
    Calls Tryz.prog 47 #[dP p, .string (B nm), .string (B pl)] w fun x w' => x = .returned (.int .i64 (e : Int)) ∧ (∃ S2, C.At bs w' p room l2 S2 ∧ D.Grow S w S2) ∧ D.But S w w' := by
  obtain ⟨x0, hx0⟩ := delete_is temp l
  obtain ⟨⟨e1, la⟩, hap⟩ : ∃ q, D.append room temp (F.frame pl) (D.del temp l) = q := ⟨_, rfl⟩
  have hcase := replaceD_of hap H
  have HI := Lib.hid hI
  have HI1 := Lib.hid (hI.del (n := temp))
  have HI2 := Lib.hid (show D.Inv room la by have := (hI.del (n := temp)).append (n := temp) (s := F.frame pl); rw [hap] at this; exact this)
  have HA := Lib.hid hA
  have HD := Lib.hid hx0
  have HAP := Lib.hid hap
  have HG := Lib.hid hg
  have HDD := Lib.hid (show D.delete temp (D.del temp l) = (6, D.del temp l) by unfold D.delete; rw [D.find_del])
  clear H hI hA hx0 hap hg
  generalize D.del temp l = l1 at *
  go_enter Tryz.func47, Tryz.ntmps47
  go_wp2_with fail
  refine (C.delete temp x0 l1 HA.out HI.out (by omega) (by simp [temp]) HD.out).mono ?_
  rintro x w1 ⟨rfl, ⟨S1, hA1, hg1⟩, hb1⟩
  have HA1 := Lib.hid hA1
  have HG1 := Lib.hid hg1
  have HB1 := Lib.hid hb1
  clear hA1 hg1 hb1
  go_wp2_with fail
  refine (extend_l C temp pl e1 la HA1.out HI1.out hroom (by simp [temp]) HG.out HAP.out).mono ?_
  rintro x w2 ⟨rfl, ⟨S2, hA2, hg2⟩, hb2⟩
  have HA2 := Lib.hid hA2
  have HG2 := Lib.hid (HG1.out.next hg2 HB1.out.size)
  have HB2 := Lib.hid (HB1.out.next hb2 HG1.out)
  clear hA2 hg2 hb2 HA1 HG1 HB1
  rcases hcase with ⟨rfl, l3, hsy, hrn⟩ | ⟨h0, rfl, rfl, rfl⟩
  · have HSY := Lib.hid hsy
    have HRN := Lib.hid hrn
    have HI3 := Lib.hid (show D.Inv room l3 by have := HI2.out.sync (n := temp); rw [hsy] at this; exact this)
    clear hsy hrn
    go_wp2_with fail
    refine (C.sync temp 0 l3 HA2.out HI2.out (by omega) (by simp [temp]) HSY.out).mono ?_
    rintro x w3 ⟨rfl, ⟨S3, hA3, hg3⟩, hb3⟩
    have HA3 := Lib.hid hA3
    have HG3 := Lib.hid (HG2.out.next hg3 HB2.out.size)
    have HB3 := Lib.hid (HB2.out.next hb3 HG2.out)
    clear hA3 hg3 hb3 HA2 HG2 HB2
    go_wp2_with fail
    refine (C.rename temp nm e l2 HA3.out HI3.out (by omega) (by simp [temp]) (by omega) HRN.out).mono ?_
    rintro x w4 ⟨rfl, ⟨S4, hA4, hg4⟩, hb4⟩
    have HR := Lib.hid (show (∃ S2, C.At bs w4 p room l2 S2 ∧ D.Grow S w S2) ∧ D.But S w w4 from ⟨⟨S4, hA4, HG3.out.next hg4 HB3.out.size⟩, HB3.out.next hb4 HG3.out⟩)
    clear hA4 hg4 hb4
    go_wp2
    go_ret
    exact ⟨rfl, HR.out⟩
  · have hei : ((e : Int) == 0) = false := beq_eq_false_iff_ne.2 (by omega)
    have hen : ¬ (e : Int) = 0 := by omega
    clear h0
    go_wp2_with fail
    refine (C.delete temp 6 _ HA2.out HI2.out (by omega) (by simp [temp]) HDD.out).mono ?_
    rintro x w3 ⟨rfl, ⟨S3, hA3, hg3⟩, hb3⟩
    have HR := Lib.hid (show (∃ S2, C.At bs w3 p room _ S2 ∧ D.Grow S w S2) ∧ D.But S w w3 from ⟨⟨S3, hA3, HG2.out.next hg3 HB2.out.size⟩, HB2.out.next hb3 HG2.out⟩)
    clear hA3 hg3 hb3
    go_wp2
    go_ret
    exact ⟨rfl, HR.out⟩
set_option maxRecDepth 100000 in
set_option maxHeartbeats 2000000 in
theorem Save_l (next : Int) (segs : List Int) (v : Value) (e : Nat) (l2 : List D.F) (hA : C.At bs w p room l S) (hI : D.Inv room l) (hroom : room ≤ 100000000) (hv : ∀ w', D.But S w w' → ReadsI w' v segs) (H : saveD room next segs l = (e, l2)) :
    Calls Tryz.prog 20 #[dP p, .agg #[.int .i64 next, v]] w fun x w' => x = .returned (.int .i64 (e : Int)) ∧ (∃ S2, C.At bs w' p room l2 S2 ∧ D.Grow S w S2) ∧ D.But S w w' := by
  obtain ⟨a, cap, rfl⟩ : ∃ a cap, v = .slice a segs.length cap := by obtain ⟨a, c, h, _⟩ := hv w (D.But.refl _ _); exact ⟨a, c, h⟩
  have HB := Lib.hid ((Below.refl w.heap.size w).alloc (Nat.le_refl _) (.cells #[.int .i64 next, .slice a segs.length cap] 37))
  have HC := Lib.hid (heap_alloc_new w (.cells #[.int .i64 next, .slice a segs.length cap] 37))
  have HA := Lib.hid (C.below hA HB.out)
  have HI := Lib.hid hI
  have HV := Lib.hid hv
  obtain ⟨g, hge⟩ : ∃ g, w.heap.size = g := ⟨_, rfl⟩
  rw [hge] at HC
  have HGE := Lib.hid hge
  clear hge hA hI hv
  cases hr : right next segs
  · have HE : Hid (e = 1 ∧ l2 = l) := Lib.hid (by unfold saveD at H; rw [hr, if_neg (by decide)] at H; cases H; exact ⟨rfl, rfl⟩)
    obtain ⟨rfl, rfl⟩ := HE.out
    have HR := Lib.hid hr
    clear hr H
    go_enter Tryz.func20, Tryz.ntmps20
    go_upto_region 1 with (fail)
    rw [HGE.out]
    generalize w.alloc (.cells #[.int .i64 next, .slice a segs.length cap] 37) = W at *
    have k0 := blkA HC.out 0
    have k1 := blkA HC.out 1
    simp only [List.getElem?_toArray, List.getElem?_cons_zero, List.getElem?_cons_succ] at k0 k1
    go_wp2_with (go_at_call 15; refine (Right_l next segs _ _ false (HV.out _ (D.But.of_below HB.out)) HR).mono ?_; rintro x w2 ⟨rfl, hb2⟩)
    go_ret
    exact ⟨rfl, ⟨S, C.below HA.out hb2, fun _ h => .inl h⟩, D.But.of_below (HB.out.trans (hb2.mono HB.out.size))⟩
  · have HE := Lib.hid (show replaceD room fileN (payload next segs) l = (e, l2) by unfold saveD at H; rw [hr, if_pos rfl] at H; exact H)
    have HR := Lib.hid hr
    have HPG := Lib.hid (payload_good hr).1
    obtain ⟨pl, hpl⟩ : ∃ pl, payload next segs = pl := ⟨_, rfl⟩
    rw [hpl] at HE HPG
    have HPL := Lib.hid hpl
    clear hr H hpl
    go_enter Tryz.func20, Tryz.ntmps20
    go_upto_region 1 with (fail)
    rw [HGE.out]
    generalize w.alloc (.cells #[.int .i64 next, .slice a segs.length cap] 37) = W at *
    have k0 := blkA HC.out 0
    have k1 := blkA HC.out 1
    simp only [List.getElem?_toArray, List.getElem?_cons_zero, List.getElem?_cons_succ] at k0 k1
    go_wp2_with (go_at_call 15; refine (Right_l next segs _ _ true (HV.out _ (D.But.of_below HB.out)) HR).mono ?_; rintro x w2 ⟨rfl, hb2⟩; have c0 := keepsA hb2 _ _ k0; have c1 := keepsA hb2 _ _ k1; have HB2 := Lib.hid (HB.out.trans (hb2.mono HB.out.size)); have HA2 := Lib.hid (C.below HA.out hb2))
    clear hb2 k0 k1 HA HB
    refine (payloadOf_l next segs _ w2 pl (HV.out _ (D.But.of_below HB2.out)) HR.out HPL).mono ?_
    rintro x w3 ⟨rfl, hb3⟩
    have HB3 := Lib.hid (HB2.out.trans (hb3.mono HB2.out.size))
    have HA3 := Lib.hid (C.below HA2.out hb3)
    clear hb3
    go_wp2_with fail
    refine (replace_l C fileN pl e l2 HA3.out HI.out hroom (by simp [fileN]) HPG.out HE.out).mono ?_
    rintro x w4 ⟨rfl, ⟨S4, hA4, hg4⟩, hb4⟩
    have HRR := Lib.hid (show (∃ S2, C.At bs w4 p room l2 S2 ∧ D.Grow S w S2) ∧ D.But S w w4 from ⟨⟨S4, hA4, hg4.wide HB3.out.size⟩, (D.But.of_below HB3.out).trans hb4⟩)
    clear hA4 hg4 hb4
    go_wp2
    go_ret
    exact ⟨rfl, HRR.out⟩
end
end Go.Proofs.YtmfhipjceeijmaaGreat.A
