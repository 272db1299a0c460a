/-
  Walk of package record: turns, the places at which an epoch may be another one, in order.
-/
import Derived.Test.YtfhopgficckjkaaRecordClos
import Derived.Test.YtfhopgficckjkaaSortShelf
import Derived.Sort.OwnSortedInts
namespace Go.Proofs.Ytfhopgficckjkaa
open Go.RowKit
attribute [local go_sem] ext_Bd ext_Bl ext_Bt toList_B add_B size_B get_Bt

def zCells (l : List Int) : List Value := l.map (Value.int .i64)
theorem zCells_len (l : List Int) : (zCells l).length = l.length := by simp [zCells]
theorem zCells_snoc (l : List Int) (z : Int) : zCells (l ++ [z]) = zCells l ++ [.int .i64 z] := by simp [zCells]
theorem Try.infoZ : (Try.prog.info? 3).map (fun i => (i.zero, i.size, i.bytes)) = some (some (.int .i64 0), 1, 8) := by kernel_rfl
/-- What stands in the row once k of both logs were gone through. -/
def upTo (a b : List R.Mk) : Nat → List Int
  | 0 => [1]
  | 1 => 1 :: R.hi a
  | _ => R.turnsL a b
/-- A row of numbers of the call's own beside a block that is not written. -/
structure RowZ (w : World) (gm : Nat) (o : Obj) (l : List Int) (v : Value) (wr : World) : Prop where
  own : wr.ownsRow w.heap.size 3 1 v l.length (zCells l)
  two : wr.heap[gm]? = some o
  bel : Below w.heap.size w wr
theorem RowZ.quiet {w wr : World} {gm : Nat} {o : Obj} {l : List Int} {v : Value} (h : RowZ w gm o l v wr) (o2 : Obj) : RowZ w gm o l v (wr.alloc o2) :=
  ⟨h.own.alloc _, by rw [Below.heap_alloc _ _ _ (lt_of_block h.two)]; exact h.two, h.bel.alloc h.bel.size _⟩
theorem RowZ.next {w wr w1 : World} {gm : Nat} {cs : Array Value} {t : TypeId} {l : List Int} {v v' : Value} {z : Int} {o2 : Obj} (h : RowZ w gm (.cells cs t (0, 0)) l v wr) (ht : t ≠ 3) (hown : w1.ownsRow w.heap.size 3 1 v' (l.length + 1) (zCells l ++ [.int .i64 z])) (hg : (wr.alloc o2).grownBy w1 v.ownBlock) :
    RowZ w gm (.cells cs t (0, 0)) (l ++ [z]) v' w1 := by
  have h2 := h.quiet o2
  refine ⟨by rw [zCells_snoc, List.length_append]; exact hown, ?_, h2.bel.grown hg (by have := h2.bel.size; exact this) fun b hb => (h.own.lt b hb).1⟩
  rw [hg.block gm (lt_of_block h2.two) (fun e => ?_)]
  · exact h2.two
  · rcases h2.own.2 with ⟨rfl, _⟩ | ⟨g, cap, cur, rfl, _, hh, _⟩
    · cases e
    · have e2 : g = gm := by simpa [Value.ownBlock] using e.symm
      subst e2
      have h3 := h2.two
      rw [hh] at h3
      cases h3
      exact ht rfl

set_option maxHeartbeats 4000000 in
set_option maxRecDepth 100000 in
theorem turns_l (a b : List R.Mk) (va vb : Value) (w : World) (ha : ReadsM w va a) (hb : ReadsM w vb b) (hl : a.length ≤ 1000) (hl2 : b.length ≤ 1000) :
    Calls Try.prog 45 #[va, vb] w fun r w' => ∃ u, r = .returned u ∧ w'.ownsRow w.heap.size 3 1 u (R.sorted (R.turnsL a b)).length (zCells (R.sorted (R.turnsL a b))) ∧ Below w.heap.size w w' := by
  obtain ⟨i0, hi, hz0, hz1, hz2⟩ := info_parts Try.infoZ
  have HA := Lib.hid ha
  have HB := Lib.hid hb
  obtain ⟨aa, ca, rfl, _⟩ := ha
  obtain ⟨ab, cb, rfl, _⟩ := hb
  go_enter Try.func45, Try.ntmps45
  go_wp2
  have H0 : Hid (RowZ w (w.heap.size + 1) (.cells #[.slice aa a.length ca, .slice ab b.length cb] 35 (0, 0)) [1] (.slice (some ⟨w.heap.size, 0, none⟩) 1 1) ((w.alloc (.cells #[.int .i64 1] 3)).alloc (.cells #[.slice aa a.length ca, .slice ab b.length cb] 35))) := Lib.hid
    ⟨⟨rfl, .inr ⟨w.heap.size, 1, #[.int .i64 1], rfl, Nat.le_refl _, by rw [Below.heap_alloc _ _ _ (by simp)]; exact heap_alloc_new w _, Nat.le_refl _, by unfold maxLen; omega, rfl, rfl⟩⟩,
     by have := heap_alloc_new (w.alloc (.cells #[.int .i64 1] 3)) (.cells #[.slice aa a.length ca, .slice ab b.length cb] 35); rwa [World.size_alloc] at this,
     ((Below.refl _ w).alloc (Nat.le_refl _) _).alloc (by simp) _⟩
  go_loopw [5, 15] (fun u i wr => ∃ k : Nat, i = .int .i64 k ∧ k ≤ 2 ∧ RowZ w (w.heap.size + 1) (.cells #[.slice aa a.length ca, .slice ab b.length cb] 35 (0, 0)) (upTo a b k) u wr) (fun _ i _ => 2 - (intOf i).toNat)
  case atStart => exact ⟨0, rfl, by omega, H0.out⟩
  case round =>
    obtain ⟨k, rfl, hk, hrow⟩ := hrel
    have HROW := Lib.hid hrow; clear hrow H0
    by_cases hlt : k < 2
    · obtain ⟨ms, am, cm, hre, hce, hup, hml⟩ : ∃ ms am cm, ReadsM w (.slice am ms.length cm) ms ∧ wr.cell? ⟨w.heap.size + 1, k, none⟩ = some (.slice am ms.length cm) ∧ upTo a b (k + 1) = upTo a b k ++ R.hi ms ∧ ms.length ≤ 1000 := by
        have h2 := HROW.out.two
        match k, hlt with
        | 0, _ => exact ⟨a, aa, ca, HA.out, by simp [World.cell?, h2], rfl, hl⟩
        | 1, _ => exact ⟨b, ab, cb, HB.out, by simp [World.cell?, h2], by simp [upTo, R.turnsL], hl2⟩
      have hk1 : (k : Int) < 2 := by omega
      obtain ⟨am2, cm2, hve, _, _, hx⟩ := hre
      cases hve
      have HX := Lib.hid hx; clear hx
      have HUP := Lib.hid hup; clear hup
      have hul : (upTo a b k).length ≤ 1001 := by
        have h1 := R.hi_len a
        match k, hlt with
        | 0, _ => simp [upTo]
        | 1, _ => simp [upTo]; omega
      generalize hacc : upTo a b k = acc at *
      clear hacc
      go_wp2
      have HR0 : Hid (RowZ w (w.heap.size + 1) (.cells #[.slice aa a.length ca, .slice ab b.length cb] 35 (0, 0)) (acc ++ R.hi (ms.take 0)) u5 wr) := Lib.hid (by simpa [R.hi] using HROW.out)
      clear HROW hce
      go_loopw [5, 21] (fun u i wr => ∃ j : Nat, i = .int .i64 j ∧ j ≤ ms.length ∧ RowZ w (w.heap.size + 1) (.cells #[.slice aa a.length ca, .slice ab b.length cb] 35 (0, 0)) (acc ++ R.hi (ms.take j)) u wr) (fun _ i _ => ms.length - (intOf i).toNat)
      case atStart => exact ⟨0, rfl, Nat.zero_le _, HR0.out⟩
      case round =>
        obtain ⟨j, rfl, hj, hrow⟩ := hrel
        have HROW := Lib.hid hrow; clear hrow HR0
        by_cases hjl : j < ms.length
        · obtain ⟨b1, o1, rfl, x0, x1⟩ := HX.out j hjl
          have hj1 : (j : Int) < (ms.length : Int) := by omega
          have y0 := below_keeps2 HROW.out.bel x0
          have y1 := below_keeps2 HROW.out.bel x1
          have hhl := R.hi_len (ms.take j)
          rw [List.length_take] at hhl
          clear x0 x1
          have HT := Lib.hid (List.take_succ_eq_append_getElem hjl)
          generalize ms[j] = m at *
          obtain ⟨m0, m1⟩ := m
          dsimp only at y0 y1
          have HQ := Lib.hid (HROW.out.quiet (.cells #[.int .i64 m0, .int .i64 m1] 52))
          by_cases h1 : 1 < m1
          · have HN : Hid (acc ++ R.hi (ms.take (j + 1)) = (acc ++ R.hi (ms.take j)) ++ [m1]) := Lib.hid (by rw [HT.out, R.hi_snoc_in h1, List.append_assoc])
            have hown := HQ.out.own
            have hsz := HQ.out.bel.size
            have hal : (acc ++ R.hi (ms.take j)).length ≤ 2001 := by rw [List.length_append]; omega
            generalize acc ++ R.hi (ms.take j) = accj at *
            have hnw : ((wr.alloc (.cells #[.int .i64 m0, .int .i64 m1] 52)).alloc (.cells #[.int .i64 m1] 3)).heap[wr.heap.size + 1]? = some (.cells #[.int .i64 m1] 3 (0, 0)) := by
              have := heap_alloc_new (wr.alloc (.cells #[.int .i64 m0, .int .i64 m1] 52)) (.cells #[.int .i64 m1] 3)
              rwa [World.size_alloc] at this
            go_wp2_with (at_builtin; refine wpList_append_own _ rfl _ _ 48 rfl w.heap.size 3 i0 _ 1 8 Try.underlying48 hi hz0 hz1 hz2 rfl (by decide) _ _ _ rfl (hown.alloc _) ⟨wr.heap.size + 1, 0, none⟩ 1 1 [.int .i64 m1] rfl rfl (World.news_of_block (cs := #[.int .i64 m1]) (t := 3) (fr := (0, 0)) hnw) (by simp [Value.oneCell']) (by unfold maxLen; omega) (by omega) (by simp at hsz ⊢; omega) ?_; intro v' w1 hown' hgrow _)
            have HN2 := Lib.hid (HQ.out.next (by decide) hown' hgrow)
            clear hown' hgrow hown
            go_wp2
            go_roundw
            case rel => exact ⟨j + 1, by go_num, by omega, by rw [HN.out]; exact HN2.out⟩
            case measure => simp [intOf]; omega
          · have HN : Hid (acc ++ R.hi (ms.take (j + 1)) = acc ++ R.hi (ms.take j)) := Lib.hid (by rw [HT.out, R.hi_snoc_out h1])
            go_wp2
            go_roundw
            case rel => exact ⟨j + 1, by go_num, by omega, by rw [HN.out]; exact HQ.out⟩
            case measure => simp [intOf]; omega
        · have HN : Hid (RowZ w (w.heap.size + 1) (.cells #[.slice aa a.length ca, .slice ab b.length cb] 35 (0, 0)) (upTo a b (k + 1)) u5 wr) := Lib.hid (by
            have := HROW.out
            rwa [List.take_of_length_le (by omega), ← HUP.out] at this)
          clear HROW
          go_wp2
          go_roundw
          case rel => exact ⟨k + 1, by go_num, by omega, HN.out⟩
          case measure => simp [intOf]; omega
    · obtain rfl : k = 2 := by omega
      have hrow := HROW.out
      have hown : wr.ownsRow w.heap.size 3 1 u5 (R.turnsL a b).length (zCells (R.turnsL a b)) := hrow.own
      have HBE := Lib.hid hrow.bel
      clear HROW hrow
      have hn : 0 < (R.turnsL a b).length := by simp [R.turnsL]
      have hnl : (R.turnsL a b).length ≤ 3000 := by
        have h1 := R.hi_len a
        have h2 := R.hi_len b
        simp [R.turnsL]; omega
      rcases hown.2 with ⟨_, h0⟩ | ⟨g, cap, cur, rfl, hbase, hg, h1, h2, h3, h4⟩
      · omega
      have HS : Hid (∀ n os, ∃ w', Sort.grow (Sort.putRow (Value.int .i64) (Sort.ahead wr n) g 0 (R.sorted (R.turnsL a b)).toArray) os = w' ∧ w'.ownsRow w.heap.size 3 1 (.slice (some ⟨g, 0, none⟩) (R.turnsL a b).length cap) (R.sorted (R.turnsL a b)).length (zCells (R.sorted (R.turnsL a b))) ∧ Below w.heap.size w w') := Lib.hid fun n os =>
        ⟨_, rfl, by rw [R.sorted_len]; exact ownsRow_sortedI (R.sorted_len _) hbase hg h1 h2 h3, HBE.out.grown (grownBy_sortedI _) HBE.out.size (fun k hk => by cases hk; exact hbase)⟩
      have hc := Try.slices_Sort_int g 0 cap (R.turnsL a b) wr (holds_of_blockI hg (by rw [Nat.mul_one] at h4; exact h4)) (lt_of_block hg) (by omega)
      clear hown hg h1 h2 h3 h4
      go_wp2_with fail
      refine hc.mono ?_
      rintro e w' ⟨rfl, nn, os, rfl⟩
      obtain ⟨w9, hw9, ho9, hb9⟩ := HS.out nn os
      have HO9 := Lib.hid ho9
      have HB9 := Lib.hid hb9
      unfold R.sorted at hw9
      rw [hw9]
      clear hc hw9 ho9 hb9
      go_wp2
      go_ret
      exact ⟨_, rfl, HO9.out, HB9.out⟩
end Go.Proofs.Ytfhopgficckjkaa
