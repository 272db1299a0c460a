/-
  The reader of package message: an entry.
-/
import Derived.Test.YtljcgpdjhjkciaaMsgReader2
namespace Go.Proofs.Ytljcgpdjhjkciaa
open Go.RowKit
attribute [local go_sem] ext_Bd ext_Bl ext_Bt toList_B add_B size_B get_Bt

set_option maxHeartbeats 4000000 in
set_option maxRecDepth 100000 in
theorem rm_entry_err {p : Nat} {w : World} {left : List UInt8} {err : Nat} (hc : RC p left err w) (hl : left.length ≤ 1000000) (hpos : 0 < err) (res : K.Rd R.En) (hres : res = Sum.inr err) :
    Calls Try.prog 61 #[rdP p, .func (.func 62) #[] #[]] w fun x w' => (∃ (z : R.En) (v : Value), x = .returned (enV z v) ∧ w'.ownsRow w.heap.size 57 2 v z.b.events.length (evCells z.b.events) ∧ (∀ a r, res = Sum.inl (a, r) → z = a)) ∧ RM p (rest res) w' ∧ w.grownBy w' (some p) := by
  obtain ⟨hA4, hA5, hB⟩ := two_new w (.cells #[.int .i64 0, .int .i64 0, .string ⟨#[]⟩, .int .i64 0, .int .i64 0, .int .i64 0, .slice none 0 0] 55) (.cells #[.int .i64 0, .int .i64 0, .string ⟨#[]⟩, .int .i64 0, .int .i64 0, .int .i64 0, .slice none 0 0] 55)
  have hplt : p < w.heap.size := (Array.getElem?_eq_some_iff.1 hc).1
  have hc2 := hc.low hB
  have HC := Lib.hid hc2
  obtain ⟨c0, c1, l0, l1⟩ := hc2.cells
  subst hres
  obtain ⟨h1, h2⟩ := err_bd hpos
  have hrlen := hl
  obtain ⟨W9, HW9⟩ : ∃ W9, Hid ((w.alloc (.cells #[.int .i64 0, .int .i64 0, .string ⟨#[]⟩, .int .i64 0, .int .i64 0, .int .i64 0, .slice none 0 0] 55)).alloc (.cells #[.int .i64 0, .int .i64 0, .string ⟨#[]⟩, .int .i64 0, .int .i64 0, .int .i64 0, .slice none 0 0] 55) = W9) := ⟨_, Lib.hid rfl⟩
  have HA4 : Hid (W9.heap[w.heap.size]? = some (.cells #[.int .i64 0, .int .i64 0, .string ⟨#[]⟩, .int .i64 0, .int .i64 0, .int .i64 0, .slice none 0 0] 55 (0, 0))) := Lib.hid (by rw [← HW9.out]; exact hA4)
  have HA5 : Hid (W9.heap[w.heap.size + 1]? = some (.cells #[.int .i64 0, .int .i64 0, .string ⟨#[]⟩, .int .i64 0, .int .i64 0, .int .i64 0, .slice none 0 0] 55 (0, 0))) := Lib.hid (by rw [← HW9.out]; exact hA5)
  have HRC : Hid (RC p left err W9) := Lib.hid (by rw [← HW9.out]; exact HC.out)
  have HG : Hid (w.grownBy W9 (some p)) := Lib.hid (by rw [← HW9.out]; exact grown_below hB)
  clear hc hA4 hA5 hB hc2 HC
  go_enter Try.func61, Try.ntmps61
  go_upto_region 4 with (fail)
  rw [HW9.out]
  clear HW9 c0 c1 l0 l1
  have x0 := block_cell HA5.out 0
  have x1 := block_cell HA5.out 1
  have x2 := block_cell HA5.out 2
  have x3 := block_cell HA5.out 3
  have x4 := block_cell HA5.out 4
  have x5 := block_cell HA5.out 5
  have x6 := block_cell HA5.out 6
  simp at x0 x1 x2 x3 x4 x5 x6
  have y0 := block_cell HA4.out 0
  have y1 := block_cell HA4.out 1
  have y2 := block_cell HA4.out 2
  have y3 := block_cell HA4.out 3
  have y4 := block_cell HA4.out 4
  have y5 := block_cell HA4.out 5
  have y6 := block_cell HA4.out 6
  simp at y0 y1 y2 y3 y4 y5 y6
  have m0 := block_loose HA4.out 0
  have m1 := block_loose HA4.out 1
  have m2 := block_loose HA4.out 2
  have m3 := block_loose HA4.out 3
  have m4 := block_loose HA4.out 4
  have m5 := block_loose HA4.out 5
  have m6 := block_loose HA4.out 6
  go_wp2
  have HK : Hid (((((((((W9.setCell ⟨w.heap.size, 0, none⟩ (.int .i64 0)).setCell ⟨w.heap.size, 1, none⟩ (.int .i64 0)).setCell ⟨w.heap.size, 2, none⟩ (.string ⟨#[]⟩)).setCell ⟨w.heap.size, 3, none⟩ (.int .i64 0)).setCell ⟨w.heap.size, 4, none⟩ (.int .i64 0)).setCell ⟨w.heap.size, 5, none⟩ (.int .i64 0)).setCell ⟨w.heap.size, 6, none⟩ (.slice none 0 0))).heap[w.heap.size]? = some (.cells #[.int .i64 0, .int .i64 0, .string ⟨#[]⟩, .int .i64 0, .int .i64 0, .int .i64 0, .slice none 0 0] 55 (0, 0))) := Lib.hid (set_block (set_block (set_block (set_block (set_block (set_block (set_block (HA4.out) 0 (.int .i64 0)) 1 (.int .i64 0)) 2 (.string ⟨#[]⟩)) 3 (.int .i64 0)) 4 (.int .i64 0)) 5 (.int .i64 0)) 6 (.slice none 0 0))
  have HF : Hid (RM p (.inr err) ((((((((W9.setCell ⟨w.heap.size, 0, none⟩ (.int .i64 0)).setCell ⟨w.heap.size, 1, none⟩ (.int .i64 0)).setCell ⟨w.heap.size, 2, none⟩ (.string ⟨#[]⟩)).setCell ⟨w.heap.size, 3, none⟩ (.int .i64 0)).setCell ⟨w.heap.size, 4, none⟩ (.int .i64 0)).setCell ⟨w.heap.size, 5, none⟩ (.int .i64 0)).setCell ⟨w.heap.size, 6, none⟩ (.slice none 0 0)))) := Lib.hid ⟨left, err, by exact (((((((HRC.out.other (by omega) 0 _).other (by omega) 1 _).other (by omega) 2 _).other (by omega) 3 _).other (by omega) 4 _).other (by omega) 5 _).other (by omega) 6 _), by first | exact hrlen | simp | omega, by first | exact ⟨rfl, rfl⟩ | exact ⟨rfl, hpos⟩⟩
  have HGF : Hid (w.grownBy ((((((((W9.setCell ⟨w.heap.size, 0, none⟩ (.int .i64 0)).setCell ⟨w.heap.size, 1, none⟩ (.int .i64 0)).setCell ⟨w.heap.size, 2, none⟩ (.string ⟨#[]⟩)).setCell ⟨w.heap.size, 3, none⟩ (.int .i64 0)).setCell ⟨w.heap.size, 4, none⟩ (.int .i64 0)).setCell ⟨w.heap.size, 5, none⟩ (.int .i64 0)).setCell ⟨w.heap.size, 6, none⟩ (.slice none 0 0))) (some p)) := Lib.hid (grown_box (grown_box (grown_box (grown_box (grown_box (grown_box (grown_box (HG.out) (Nat.le_refl _) 0 _) (Nat.le_refl _) 1 _) (Nat.le_refl _) 2 _) (Nat.le_refl _) 3 _) (Nat.le_refl _) 4 _) (Nat.le_refl _) 5 _) (Nat.le_refl _) 6 _)
  generalize (((((((W9.setCell ⟨w.heap.size, 0, none⟩ (.int .i64 0)).setCell ⟨w.heap.size, 1, none⟩ (.int .i64 0)).setCell ⟨w.heap.size, 2, none⟩ (.string ⟨#[]⟩)).setCell ⟨w.heap.size, 3, none⟩ (.int .i64 0)).setCell ⟨w.heap.size, 4, none⟩ (.int .i64 0)).setCell ⟨w.heap.size, 5, none⟩ (.int .i64 0)).setCell ⟨w.heap.size, 6, none⟩ (.slice none 0 0)) = w9 at HK HF HGF ⊢
  have k0 := block_cell HK.out 0
  have k1 := block_cell HK.out 1
  have k2 := block_cell HK.out 2
  have k3 := block_cell HK.out 3
  have k4 := block_cell HK.out 4
  have k5 := block_cell HK.out 5
  have k6 := block_cell HK.out 6
  simp at k0 k1 k2 k3 k4 k5 k6
  exact bodyPost_ret (v := .agg #[.int .i64 0, .int .i64 0, .string ⟨#[]⟩, .int .i64 0, .int .i64 0, .int .i64 0, .slice none 0 0]) (by simp [results, Try.results61, go_sem, k0, k1, k2, k3, k4, k5, k6]) rfl ⟨⟨⟨0, 0, ⟨[], 0, 0, 0, []⟩⟩, _, rfl, World.ownsRow_nil _ _ _ _, (fun a r e => by cases e)⟩, HF.out, HGF.out⟩

set_option maxHeartbeats 4000000 in
set_option maxRecDepth 100000 in
theorem rm_entry_ok {p : Nat} {w : World} {left : List UInt8} {err : Nat} (hc : RC p left err w) (hl : left.length ≤ 1000000) (herr : err = 0) (a : R.En) (r : List UInt8) (HR : Hid (R.takeEn left = Sum.inl (a, r))) (res : K.Rd R.En) (hres : res = Sum.inl (a, r)) :
    Calls Try.prog 61 #[rdP p, .func (.func 62) #[] #[]] w fun x w' => (∃ (z : R.En) (v : Value), x = .returned (enV z v) ∧ w'.ownsRow w.heap.size 57 2 v z.b.events.length (evCells z.b.events) ∧ (∀ a r, res = Sum.inl (a, r) → z = a)) ∧ RM p (rest res) w' ∧ w.grownBy w' (some p) := by
  obtain ⟨hA4, hA5, hB⟩ := two_new w (.cells #[.int .i64 0, .int .i64 0, .string ⟨#[]⟩, .int .i64 0, .int .i64 0, .int .i64 0, .slice none 0 0] 55) (.cells #[.int .i64 0, .int .i64 0, .string ⟨#[]⟩, .int .i64 0, .int .i64 0, .int .i64 0, .slice none 0 0] 55)
  have hplt : p < w.heap.size := (Array.getElem?_eq_some_iff.1 hc).1
  have hc2 := hc.low hB
  have HC := Lib.hid hc2
  obtain ⟨c0, c1, l0, l1⟩ := hc2.cells
  subst hres herr
  have HA4a := Lib.hid hA4
  have HA5a := Lib.hid hA5
  have HBB := Lib.hid hB
  clear hc hA4 hA5 hB hc2
  have HRI := Lib.hid (R.take_inv HR.out).2
  have HQ := Lib.hid (R.take_inv HR.out).1
  have HSM := Lib.hid (right_small HRI.out)
  obtain ⟨pos, ep, ⟨st, ex, se, sq, evs⟩⟩ := a
  go_enter Try.func61, Try.ntmps61
  go_wp2_with fail
  refine (Take6_ok ⟨pos, ep, ⟨st, ex, se, sq, evs⟩⟩ left r _ HRI.out HSM.out HQ (by omega)).mono ?_
  rintro x w1 ⟨u, rfl, how1, hb1⟩
  have HOW1 := Lib.hid (own_base5 (b := w.heap.size) how1 (by simp only [World.size_alloc]; omega))
  obtain ⟨ua, uc, rfl, -⟩ := own_slice how1
  dsimp only [enV]
  clear how1
  have HC1 := Lib.hid (HC.out.low hb1)
  have HA41 := Lib.hid (block_below HA4a.out hb1)
  have HA51 := Lib.hid (block_below HA5a.out hb1)
  have HG1 := Lib.hid ((grown_below HBB.out).trans (grown_below (row := some p) hb1))
  have hrlen : r.length ≤ 1000000 := by have := congrArg List.length HQ.out; rw [List.length_append] at this; omega
  clear hb1 HC HA4a HA5a HBB c0 c1 l0 l1
  obtain ⟨c0, c1, l0, l1⟩ := HC1.out.cells
  have b0 := block_cell HA51.out 0
  have b1 := block_cell HA51.out 1
  have b2 := block_cell HA51.out 2
  have b3 := block_cell HA51.out 3
  have b4 := block_cell HA51.out 4
  have b5 := block_cell HA51.out 5
  have b6 := block_cell HA51.out 6
  simp at b0 b1 b2 b3 b4 b5 b6
  have f0 := block_loose HA51.out 0
  have f1 := block_loose HA51.out 1
  have f2 := block_loose HA51.out 2
  have f3 := block_loose HA51.out 3
  have f4 := block_loose HA51.out 4
  have f5 := block_loose HA51.out 5
  have f6 := block_loose HA51.out 6
  go_upto_region 4 with (fail)
  have HA5 : Hid ((((((((((w1.setCell ⟨w.heap.size + 1, 0, none⟩ (.int .i64 pos)).setCell ⟨w.heap.size + 1, 1, none⟩ (.int .i64 ep)).setCell ⟨w.heap.size + 1, 2, none⟩ (.string (B st))).setCell ⟨w.heap.size + 1, 3, none⟩ (.int .i64 ex)).setCell ⟨w.heap.size + 1, 4, none⟩ (.int .i64 se)).setCell ⟨w.heap.size + 1, 5, none⟩ (.int .i64 sq)).setCell ⟨w.heap.size + 1, 6, none⟩ (.slice ua evs.length uc)).setCell ⟨p, 0, none⟩ (.string (B r))).setCell ⟨p, 1, none⟩ (.int .i64 ((0 : Nat) : Int))).heap[w.heap.size + 1]? = some (.cells #[.int .i64 pos, .int .i64 ep, .string (B st), .int .i64 ex, .int .i64 se, .int .i64 sq, .slice ua evs.length uc] 55 (0, 0))) := Lib.hid (set_other (set_other (set_block (set_block (set_block (set_block (set_block (set_block (set_block (HA51.out) 0 (.int .i64 pos)) 1 (.int .i64 ep)) 2 (.string (B st))) 3 (.int .i64 ex)) 4 (.int .i64 se)) 5 (.int .i64 sq)) 6 (.slice ua evs.length uc)) (by omega) 0 _) (by omega) 1 _)
  have HA4 : Hid ((((((((((w1.setCell ⟨w.heap.size + 1, 0, none⟩ (.int .i64 pos)).setCell ⟨w.heap.size + 1, 1, none⟩ (.int .i64 ep)).setCell ⟨w.heap.size + 1, 2, none⟩ (.string (B st))).setCell ⟨w.heap.size + 1, 3, none⟩ (.int .i64 ex)).setCell ⟨w.heap.size + 1, 4, none⟩ (.int .i64 se)).setCell ⟨w.heap.size + 1, 5, none⟩ (.int .i64 sq)).setCell ⟨w.heap.size + 1, 6, none⟩ (.slice ua evs.length uc)).setCell ⟨p, 0, none⟩ (.string (B r))).setCell ⟨p, 1, none⟩ (.int .i64 ((0 : Nat) : Int))).heap[w.heap.size]? = some (.cells #[.int .i64 0, .int .i64 0, .string ⟨#[]⟩, .int .i64 0, .int .i64 0, .int .i64 0, .slice none 0 0] 55 (0, 0))) := Lib.hid (set_other (set_other (set_other (set_other (set_other (set_other (set_other (set_other (set_other HA41.out (by omega) 0 _) (by omega) 1 _) (by omega) 2 _) (by omega) 3 _) (by omega) 4 _) (by omega) 5 _) (by omega) 6 _) (by omega) 0 _) (by omega) 1 _)
  have HRC : Hid (RC p r 0 (((((((((w1.setCell ⟨w.heap.size + 1, 0, none⟩ (.int .i64 pos)).setCell ⟨w.heap.size + 1, 1, none⟩ (.int .i64 ep)).setCell ⟨w.heap.size + 1, 2, none⟩ (.string (B st))).setCell ⟨w.heap.size + 1, 3, none⟩ (.int .i64 ex)).setCell ⟨w.heap.size + 1, 4, none⟩ (.int .i64 se)).setCell ⟨w.heap.size + 1, 5, none⟩ (.int .i64 sq)).setCell ⟨w.heap.size + 1, 6, none⟩ (.slice ua evs.length uc)).setCell ⟨p, 0, none⟩ (.string (B r))).setCell ⟨p, 1, none⟩ (.int .i64 ((0 : Nat) : Int)))) := Lib.hid (RC.set (((((((HC1.out.other (by omega) 0 _).other (by omega) 1 _).other (by omega) 2 _).other (by omega) 3 _).other (by omega) 4 _).other (by omega) 5 _).other (by omega) 6 _))
  have HG : Hid (w.grownBy (((((((((w1.setCell ⟨w.heap.size + 1, 0, none⟩ (.int .i64 pos)).setCell ⟨w.heap.size + 1, 1, none⟩ (.int .i64 ep)).setCell ⟨w.heap.size + 1, 2, none⟩ (.string (B st))).setCell ⟨w.heap.size + 1, 3, none⟩ (.int .i64 ex)).setCell ⟨w.heap.size + 1, 4, none⟩ (.int .i64 se)).setCell ⟨w.heap.size + 1, 5, none⟩ (.int .i64 sq)).setCell ⟨w.heap.size + 1, 6, none⟩ (.slice ua evs.length uc)).setCell ⟨p, 0, none⟩ (.string (B r))).setCell ⟨p, 1, none⟩ (.int .i64 ((0 : Nat) : Int))) (some p)) := Lib.hid (grown_two (grown_box (grown_box (grown_box (grown_box (grown_box (grown_box (grown_box (HG1.out) (by omega) 0 _) (by omega) 1 _) (by omega) 2 _) (by omega) 3 _) (by omega) 4 _) (by omega) 5 _) (by omega) 6 _) _ _)
  have ho0 := own_other HOW1.out HA51.out (by decide) 0 (.int .i64 pos)
  have hs0 := set_block HA51.out 0 (.int .i64 pos)
  have ho1 := own_other ho0 hs0 (by decide) 1 (.int .i64 ep)
  have hs1 := set_block hs0 1 (.int .i64 ep)
  have ho2 := own_other ho1 hs1 (by decide) 2 (.string (B st))
  have hs2 := set_block hs1 2 (.string (B st))
  have ho3 := own_other ho2 hs2 (by decide) 3 (.int .i64 ex)
  have hs3 := set_block hs2 3 (.int .i64 ex)
  have ho4 := own_other ho3 hs3 (by decide) 4 (.int .i64 se)
  have hs4 := set_block hs3 4 (.int .i64 se)
  have ho5 := own_other ho4 hs4 (by decide) 5 (.int .i64 sq)
  have hs5 := set_block hs4 5 (.int .i64 sq)
  have ho6 := own_other ho5 hs5 (by decide) 6 (.slice ua evs.length uc)
  have hs6 := set_block hs5 6 (.slice ua evs.length uc)
  have hpc : RC p left 0 (((((((w1.setCell ⟨w.heap.size + 1, 0, none⟩ (.int .i64 pos)).setCell ⟨w.heap.size + 1, 1, none⟩ (.int .i64 ep)).setCell ⟨w.heap.size + 1, 2, none⟩ (.string (B st))).setCell ⟨w.heap.size + 1, 3, none⟩ (.int .i64 ex)).setCell ⟨w.heap.size + 1, 4, none⟩ (.int .i64 se)).setCell ⟨w.heap.size + 1, 5, none⟩ (.int .i64 sq)).setCell ⟨w.heap.size + 1, 6, none⟩ (.slice ua evs.length uc)) := (((((((HC1.out.other (by omega) 0 _).other (by omega) 1 _).other (by omega) 2 _).other (by omega) 3 _).other (by omega) 4 _).other (by omega) 5 _).other (by omega) 6 _)
  have hq0 := own_other ho6 hpc (by decide) 0 (.string (B r))
  have hq1 := own_other hq0 (set_block hpc 0 (.string (B r))) (by decide) 1 (.int .i64 ((0 : Nat) : Int))
  have HOW := Lib.hid hq1
  clear hq0 hq1 hpc ho0 hs0 ho1 hs1 ho2 hs2 ho3 hs3 ho4 hs4 ho5 hs5 ho6 hs6
  generalize (((((((((w1.setCell ⟨w.heap.size + 1, 0, none⟩ (.int .i64 pos)).setCell ⟨w.heap.size + 1, 1, none⟩ (.int .i64 ep)).setCell ⟨w.heap.size + 1, 2, none⟩ (.string (B st))).setCell ⟨w.heap.size + 1, 3, none⟩ (.int .i64 ex)).setCell ⟨w.heap.size + 1, 4, none⟩ (.int .i64 se)).setCell ⟨w.heap.size + 1, 5, none⟩ (.int .i64 sq)).setCell ⟨w.heap.size + 1, 6, none⟩ (.slice ua evs.length uc)).setCell ⟨p, 0, none⟩ (.string (B r))).setCell ⟨p, 1, none⟩ (.int .i64 ((0 : Nat) : Int))) = W9 at HA5 HA4 HRC HG HOW ⊢
  clear HC1 HA41 HA51 HG1 HOW1 c0 c1 l0 l1 b0 f0 b1 f1 b2 f2 b3 f3 b4 f4 b5 f5 b6 f6
  have x0 := block_cell HA5.out 0
  have x1 := block_cell HA5.out 1
  have x2 := block_cell HA5.out 2
  have x3 := block_cell HA5.out 3
  have x4 := block_cell HA5.out 4
  have x5 := block_cell HA5.out 5
  have x6 := block_cell HA5.out 6
  simp at x0 x1 x2 x3 x4 x5 x6
  have y0 := block_cell HA4.out 0
  have y1 := block_cell HA4.out 1
  have y2 := block_cell HA4.out 2
  have y3 := block_cell HA4.out 3
  have y4 := block_cell HA4.out 4
  have y5 := block_cell HA4.out 5
  have y6 := block_cell HA4.out 6
  simp at y0 y1 y2 y3 y4 y5 y6
  have m0 := block_loose HA4.out 0
  have m1 := block_loose HA4.out 1
  have m2 := block_loose HA4.out 2
  have m3 := block_loose HA4.out 3
  have m4 := block_loose HA4.out 4
  have m5 := block_loose HA4.out 5
  have m6 := block_loose HA4.out 6
  go_wp2
  have HK : Hid (((((((((W9.setCell ⟨w.heap.size, 0, none⟩ (.int .i64 pos)).setCell ⟨w.heap.size, 1, none⟩ (.int .i64 ep)).setCell ⟨w.heap.size, 2, none⟩ (.string (B st))).setCell ⟨w.heap.size, 3, none⟩ (.int .i64 ex)).setCell ⟨w.heap.size, 4, none⟩ (.int .i64 se)).setCell ⟨w.heap.size, 5, none⟩ (.int .i64 sq)).setCell ⟨w.heap.size, 6, none⟩ (.slice ua evs.length uc))).heap[w.heap.size]? = some (.cells #[.int .i64 pos, .int .i64 ep, .string (B st), .int .i64 ex, .int .i64 se, .int .i64 sq, .slice ua evs.length uc] 55 (0, 0))) := Lib.hid (set_block (set_block (set_block (set_block (set_block (set_block (set_block (HA4.out) 0 (.int .i64 pos)) 1 (.int .i64 ep)) 2 (.string (B st))) 3 (.int .i64 ex)) 4 (.int .i64 se)) 5 (.int .i64 sq)) 6 (.slice ua evs.length uc))
  have HF : Hid (RM p (.inl r) ((((((((W9.setCell ⟨w.heap.size, 0, none⟩ (.int .i64 pos)).setCell ⟨w.heap.size, 1, none⟩ (.int .i64 ep)).setCell ⟨w.heap.size, 2, none⟩ (.string (B st))).setCell ⟨w.heap.size, 3, none⟩ (.int .i64 ex)).setCell ⟨w.heap.size, 4, none⟩ (.int .i64 se)).setCell ⟨w.heap.size, 5, none⟩ (.int .i64 sq)).setCell ⟨w.heap.size, 6, none⟩ (.slice ua evs.length uc)))) := Lib.hid ⟨r, 0, by exact (((((((HRC.out.other (by omega) 0 _).other (by omega) 1 _).other (by omega) 2 _).other (by omega) 3 _).other (by omega) 4 _).other (by omega) 5 _).other (by omega) 6 _), by first | exact hrlen | simp | omega, by first | exact ⟨rfl, rfl⟩ | exact ⟨rfl, hpos⟩⟩
  have HGF : Hid (w.grownBy ((((((((W9.setCell ⟨w.heap.size, 0, none⟩ (.int .i64 pos)).setCell ⟨w.heap.size, 1, none⟩ (.int .i64 ep)).setCell ⟨w.heap.size, 2, none⟩ (.string (B st))).setCell ⟨w.heap.size, 3, none⟩ (.int .i64 ex)).setCell ⟨w.heap.size, 4, none⟩ (.int .i64 se)).setCell ⟨w.heap.size, 5, none⟩ (.int .i64 sq)).setCell ⟨w.heap.size, 6, none⟩ (.slice ua evs.length uc))) (some p)) := Lib.hid (grown_box (grown_box (grown_box (grown_box (grown_box (grown_box (grown_box (HG.out) (Nat.le_refl _) 0 _) (Nat.le_refl _) 1 _) (Nat.le_refl _) 2 _) (Nat.le_refl _) 3 _) (Nat.le_refl _) 4 _) (Nat.le_refl _) 5 _) (Nat.le_refl _) 6 _)
  have ho0 := own_other HOW.out HA4.out (by decide) 0 (.int .i64 pos)
  have hs0 := set_block HA4.out 0 (.int .i64 pos)
  have ho1 := own_other ho0 hs0 (by decide) 1 (.int .i64 ep)
  have hs1 := set_block hs0 1 (.int .i64 ep)
  have ho2 := own_other ho1 hs1 (by decide) 2 (.string (B st))
  have hs2 := set_block hs1 2 (.string (B st))
  have ho3 := own_other ho2 hs2 (by decide) 3 (.int .i64 ex)
  have hs3 := set_block hs2 3 (.int .i64 ex)
  have ho4 := own_other ho3 hs3 (by decide) 4 (.int .i64 se)
  have hs4 := set_block hs3 4 (.int .i64 se)
  have ho5 := own_other ho4 hs4 (by decide) 5 (.int .i64 sq)
  have hs5 := set_block hs4 5 (.int .i64 sq)
  have ho6 := own_other ho5 hs5 (by decide) 6 (.slice ua evs.length uc)
  have hs6 := set_block hs5 6 (.slice ua evs.length uc)
  have HOF := Lib.hid ho6
  clear ho0 hs0 ho1 hs1 ho2 hs2 ho3 hs3 ho4 hs4 ho5 hs5 ho6 hs6
  generalize (((((((W9.setCell ⟨w.heap.size, 0, none⟩ (.int .i64 pos)).setCell ⟨w.heap.size, 1, none⟩ (.int .i64 ep)).setCell ⟨w.heap.size, 2, none⟩ (.string (B st))).setCell ⟨w.heap.size, 3, none⟩ (.int .i64 ex)).setCell ⟨w.heap.size, 4, none⟩ (.int .i64 se)).setCell ⟨w.heap.size, 5, none⟩ (.int .i64 sq)).setCell ⟨w.heap.size, 6, none⟩ (.slice ua evs.length uc)) = w9 at HK HF HGF HOF ⊢
  have k0 := block_cell HK.out 0
  have k1 := block_cell HK.out 1
  have k2 := block_cell HK.out 2
  have k3 := block_cell HK.out 3
  have k4 := block_cell HK.out 4
  have k5 := block_cell HK.out 5
  have k6 := block_cell HK.out 6
  simp at k0 k1 k2 k3 k4 k5 k6
  exact bodyPost_ret (v := .agg #[.int .i64 pos, .int .i64 ep, .string (B st), .int .i64 ex, .int .i64 se, .int .i64 sq, .slice ua evs.length uc]) (by simp [results, Try.results61, go_sem, k0, k1, k2, k3, k4, k5, k6]) rfl ⟨⟨⟨pos, ep, ⟨st, ex, se, sq, evs⟩⟩, _, rfl, HOF.out, (by first | (intro _ _ e; cases e; rfl) | rfl)⟩, HF.out, HGF.out⟩

set_option maxHeartbeats 4000000 in
set_option maxRecDepth 100000 in
theorem rm_entry_bad {p : Nat} {w : World} {left : List UInt8} {err : Nat} (hc : RC p left err w) (hl : left.length ≤ 1000000) (herr : err = 0) (e : Nat) (HR : Hid (R.takeEn left = Sum.inr e)) (res : K.Rd R.En) (hres : res = Sum.inr e) :
    Calls Try.prog 61 #[rdP p, .func (.func 62) #[] #[]] w fun x w' => (∃ (z : R.En) (v : Value), x = .returned (enV z v) ∧ w'.ownsRow w.heap.size 57 2 v z.b.events.length (evCells z.b.events) ∧ (∀ a r, res = Sum.inl (a, r) → z = a)) ∧ RM p (rest res) w' ∧ w.grownBy w' (some p) := by
  obtain ⟨hA4, hA5, hB⟩ := two_new w (.cells #[.int .i64 0, .int .i64 0, .string ⟨#[]⟩, .int .i64 0, .int .i64 0, .int .i64 0, .slice none 0 0] 55) (.cells #[.int .i64 0, .int .i64 0, .string ⟨#[]⟩, .int .i64 0, .int .i64 0, .int .i64 0, .slice none 0 0] 55)
  have hplt : p < w.heap.size := (Array.getElem?_eq_some_iff.1 hc).1
  have hc2 := hc.low hB
  have HC := Lib.hid hc2
  obtain ⟨c0, c1, l0, l1⟩ := hc2.cells
  subst hres herr
  have HA4a := Lib.hid hA4
  have HA5a := Lib.hid hA5
  have HBB := Lib.hid hB
  clear hc hA4 hA5 hB hc2
  have hpos := R.en_errs left e HR.out
  go_enter Try.func61, Try.ntmps61
  go_wp2_with fail
  refine (Take6_bad left e _ (by omega) HR).mono ?_
  rintro x w1 ⟨rfl, hb1⟩
  dsimp only [zeroE]
  have HC1 := Lib.hid (HC.out.low hb1)
  have HA41 := Lib.hid (block_below HA4a.out hb1)
  have HA51 := Lib.hid (block_below HA5a.out hb1)
  have HG1 := Lib.hid ((grown_below HBB.out).trans (grown_below (row := some p) hb1))
  have hrlen : ([] : List UInt8).length ≤ 1000000 := by simp
  clear hb1 HC HA4a HA5a HBB c0 c1 l0 l1
  obtain ⟨c0, c1, l0, l1⟩ := HC1.out.cells
  have b0 := block_cell HA51.out 0
  have b1 := block_cell HA51.out 1
  have b2 := block_cell HA51.out 2
  have b3 := block_cell HA51.out 3
  have b4 := block_cell HA51.out 4
  have b5 := block_cell HA51.out 5
  have b6 := block_cell HA51.out 6
  simp at b0 b1 b2 b3 b4 b5 b6
  have f0 := block_loose HA51.out 0
  have f1 := block_loose HA51.out 1
  have f2 := block_loose HA51.out 2
  have f3 := block_loose HA51.out 3
  have f4 := block_loose HA51.out 4
  have f5 := block_loose HA51.out 5
  have f6 := block_loose HA51.out 6
  go_upto_region 4 with (fail)
  have HA5 : Hid ((((((((((w1.setCell ⟨w.heap.size + 1, 0, none⟩ (.int .i64 0)).setCell ⟨w.heap.size + 1, 1, none⟩ (.int .i64 0)).setCell ⟨w.heap.size + 1, 2, none⟩ (.string ⟨#[]⟩)).setCell ⟨w.heap.size + 1, 3, none⟩ (.int .i64 0)).setCell ⟨w.heap.size + 1, 4, none⟩ (.int .i64 0)).setCell ⟨w.heap.size + 1, 5, none⟩ (.int .i64 0)).setCell ⟨w.heap.size + 1, 6, none⟩ (.slice none 0 0)).setCell ⟨p, 0, none⟩ (.string (B []))).setCell ⟨p, 1, none⟩ (.int .i64 (e : Int))).heap[w.heap.size + 1]? = some (.cells #[.int .i64 0, .int .i64 0, .string ⟨#[]⟩, .int .i64 0, .int .i64 0, .int .i64 0, .slice none 0 0] 55 (0, 0))) := Lib.hid (set_other (set_other (set_block (set_block (set_block (set_block (set_block (set_block (set_block (HA51.out) 0 (.int .i64 0)) 1 (.int .i64 0)) 2 (.string ⟨#[]⟩)) 3 (.int .i64 0)) 4 (.int .i64 0)) 5 (.int .i64 0)) 6 (.slice none 0 0)) (by omega) 0 _) (by omega) 1 _)
  have HA4 : Hid ((((((((((w1.setCell ⟨w.heap.size + 1, 0, none⟩ (.int .i64 0)).setCell ⟨w.heap.size + 1, 1, none⟩ (.int .i64 0)).setCell ⟨w.heap.size + 1, 2, none⟩ (.string ⟨#[]⟩)).setCell ⟨w.heap.size + 1, 3, none⟩ (.int .i64 0)).setCell ⟨w.heap.size + 1, 4, none⟩ (.int .i64 0)).setCell ⟨w.heap.size + 1, 5, none⟩ (.int .i64 0)).setCell ⟨w.heap.size + 1, 6, none⟩ (.slice none 0 0)).setCell ⟨p, 0, none⟩ (.string (B []))).setCell ⟨p, 1, none⟩ (.int .i64 (e : Int))).heap[w.heap.size]? = some (.cells #[.int .i64 0, .int .i64 0, .string ⟨#[]⟩, .int .i64 0, .int .i64 0, .int .i64 0, .slice none 0 0] 55 (0, 0))) := Lib.hid (set_other (set_other (set_other (set_other (set_other (set_other (set_other (set_other (set_other HA41.out (by omega) 0 _) (by omega) 1 _) (by omega) 2 _) (by omega) 3 _) (by omega) 4 _) (by omega) 5 _) (by omega) 6 _) (by omega) 0 _) (by omega) 1 _)
  have HRC : Hid (RC p [] e (((((((((w1.setCell ⟨w.heap.size + 1, 0, none⟩ (.int .i64 0)).setCell ⟨w.heap.size + 1, 1, none⟩ (.int .i64 0)).setCell ⟨w.heap.size + 1, 2, none⟩ (.string ⟨#[]⟩)).setCell ⟨w.heap.size + 1, 3, none⟩ (.int .i64 0)).setCell ⟨w.heap.size + 1, 4, none⟩ (.int .i64 0)).setCell ⟨w.heap.size + 1, 5, none⟩ (.int .i64 0)).setCell ⟨w.heap.size + 1, 6, none⟩ (.slice none 0 0)).setCell ⟨p, 0, none⟩ (.string (B []))).setCell ⟨p, 1, none⟩ (.int .i64 (e : Int)))) := Lib.hid (RC.set (((((((HC1.out.other (by omega) 0 _).other (by omega) 1 _).other (by omega) 2 _).other (by omega) 3 _).other (by omega) 4 _).other (by omega) 5 _).other (by omega) 6 _))
  have HG : Hid (w.grownBy (((((((((w1.setCell ⟨w.heap.size + 1, 0, none⟩ (.int .i64 0)).setCell ⟨w.heap.size + 1, 1, none⟩ (.int .i64 0)).setCell ⟨w.heap.size + 1, 2, none⟩ (.string ⟨#[]⟩)).setCell ⟨w.heap.size + 1, 3, none⟩ (.int .i64 0)).setCell ⟨w.heap.size + 1, 4, none⟩ (.int .i64 0)).setCell ⟨w.heap.size + 1, 5, none⟩ (.int .i64 0)).setCell ⟨w.heap.size + 1, 6, none⟩ (.slice none 0 0)).setCell ⟨p, 0, none⟩ (.string (B []))).setCell ⟨p, 1, none⟩ (.int .i64 (e : Int))) (some p)) := Lib.hid (grown_two (grown_box (grown_box (grown_box (grown_box (grown_box (grown_box (grown_box (HG1.out) (by omega) 0 _) (by omega) 1 _) (by omega) 2 _) (by omega) 3 _) (by omega) 4 _) (by omega) 5 _) (by omega) 6 _) _ _)
  generalize (((((((((w1.setCell ⟨w.heap.size + 1, 0, none⟩ (.int .i64 0)).setCell ⟨w.heap.size + 1, 1, none⟩ (.int .i64 0)).setCell ⟨w.heap.size + 1, 2, none⟩ (.string ⟨#[]⟩)).setCell ⟨w.heap.size + 1, 3, none⟩ (.int .i64 0)).setCell ⟨w.heap.size + 1, 4, none⟩ (.int .i64 0)).setCell ⟨w.heap.size + 1, 5, none⟩ (.int .i64 0)).setCell ⟨w.heap.size + 1, 6, none⟩ (.slice none 0 0)).setCell ⟨p, 0, none⟩ (.string (B []))).setCell ⟨p, 1, none⟩ (.int .i64 (e : Int))) = W9 at HA5 HA4 HRC HG ⊢
  clear HC1 HA41 HA51 HG1 c0 c1 l0 l1 b0 f0 b1 f1 b2 f2 b3 f3 b4 f4 b5 f5 b6 f6
  have x0 := block_cell HA5.out 0
  have x1 := block_cell HA5.out 1
  have x2 := block_cell HA5.out 2
  have x3 := block_cell HA5.out 3
  have x4 := block_cell HA5.out 4
  have x5 := block_cell HA5.out 5
  have x6 := block_cell HA5.out 6
  simp at x0 x1 x2 x3 x4 x5 x6
  have y0 := block_cell HA4.out 0
  have y1 := block_cell HA4.out 1
  have y2 := block_cell HA4.out 2
  have y3 := block_cell HA4.out 3
  have y4 := block_cell HA4.out 4
  have y5 := block_cell HA4.out 5
  have y6 := block_cell HA4.out 6
  simp at y0 y1 y2 y3 y4 y5 y6
  have m0 := block_loose HA4.out 0
  have m1 := block_loose HA4.out 1
  have m2 := block_loose HA4.out 2
  have m3 := block_loose HA4.out 3
  have m4 := block_loose HA4.out 4
  have m5 := block_loose HA4.out 5
  have m6 := block_loose HA4.out 6
  go_wp2
  have HK : Hid (((((((((W9.setCell ⟨w.heap.size, 0, none⟩ (.int .i64 0)).setCell ⟨w.heap.size, 1, none⟩ (.int .i64 0)).setCell ⟨w.heap.size, 2, none⟩ (.string ⟨#[]⟩)).setCell ⟨w.heap.size, 3, none⟩ (.int .i64 0)).setCell ⟨w.heap.size, 4, none⟩ (.int .i64 0)).setCell ⟨w.heap.size, 5, none⟩ (.int .i64 0)).setCell ⟨w.heap.size, 6, none⟩ (.slice none 0 0))).heap[w.heap.size]? = some (.cells #[.int .i64 0, .int .i64 0, .string ⟨#[]⟩, .int .i64 0, .int .i64 0, .int .i64 0, .slice none 0 0] 55 (0, 0))) := Lib.hid (set_block (set_block (set_block (set_block (set_block (set_block (set_block (HA4.out) 0 (.int .i64 0)) 1 (.int .i64 0)) 2 (.string ⟨#[]⟩)) 3 (.int .i64 0)) 4 (.int .i64 0)) 5 (.int .i64 0)) 6 (.slice none 0 0))
  have HF : Hid (RM p (.inr e) ((((((((W9.setCell ⟨w.heap.size, 0, none⟩ (.int .i64 0)).setCell ⟨w.heap.size, 1, none⟩ (.int .i64 0)).setCell ⟨w.heap.size, 2, none⟩ (.string ⟨#[]⟩)).setCell ⟨w.heap.size, 3, none⟩ (.int .i64 0)).setCell ⟨w.heap.size, 4, none⟩ (.int .i64 0)).setCell ⟨w.heap.size, 5, none⟩ (.int .i64 0)).setCell ⟨w.heap.size, 6, none⟩ (.slice none 0 0)))) := Lib.hid ⟨[], e, by exact (((((((HRC.out.other (by omega) 0 _).other (by omega) 1 _).other (by omega) 2 _).other (by omega) 3 _).other (by omega) 4 _).other (by omega) 5 _).other (by omega) 6 _), by first | exact hrlen | simp | omega, by first | exact ⟨rfl, rfl⟩ | exact ⟨rfl, hpos⟩⟩
  have HGF : Hid (w.grownBy ((((((((W9.setCell ⟨w.heap.size, 0, none⟩ (.int .i64 0)).setCell ⟨w.heap.size, 1, none⟩ (.int .i64 0)).setCell ⟨w.heap.size, 2, none⟩ (.string ⟨#[]⟩)).setCell ⟨w.heap.size, 3, none⟩ (.int .i64 0)).setCell ⟨w.heap.size, 4, none⟩ (.int .i64 0)).setCell ⟨w.heap.size, 5, none⟩ (.int .i64 0)).setCell ⟨w.heap.size, 6, none⟩ (.slice none 0 0))) (some p)) := Lib.hid (grown_box (grown_box (grown_box (grown_box (grown_box (grown_box (grown_box (HG.out) (Nat.le_refl _) 0 _) (Nat.le_refl _) 1 _) (Nat.le_refl _) 2 _) (Nat.le_refl _) 3 _) (Nat.le_refl _) 4 _) (Nat.le_refl _) 5 _) (Nat.le_refl _) 6 _)
  generalize (((((((W9.setCell ⟨w.heap.size, 0, none⟩ (.int .i64 0)).setCell ⟨w.heap.size, 1, none⟩ (.int .i64 0)).setCell ⟨w.heap.size, 2, none⟩ (.string ⟨#[]⟩)).setCell ⟨w.heap.size, 3, none⟩ (.int .i64 0)).setCell ⟨w.heap.size, 4, none⟩ (.int .i64 0)).setCell ⟨w.heap.size, 5, none⟩ (.int .i64 0)).setCell ⟨w.heap.size, 6, none⟩ (.slice none 0 0)) = w9 at HK HF HGF ⊢
  have k0 := block_cell HK.out 0
  have k1 := block_cell HK.out 1
  have k2 := block_cell HK.out 2
  have k3 := block_cell HK.out 3
  have k4 := block_cell HK.out 4
  have k5 := block_cell HK.out 5
  have k6 := block_cell HK.out 6
  simp at k0 k1 k2 k3 k4 k5 k6
  exact bodyPost_ret (v := .agg #[.int .i64 0, .int .i64 0, .string ⟨#[]⟩, .int .i64 0, .int .i64 0, .int .i64 0, .slice none 0 0]) (by simp [results, Try.results61, go_sem, k0, k1, k2, k3, k4, k5, k6]) rfl ⟨⟨⟨0, 0, ⟨[], 0, 0, 0, []⟩⟩, _, rfl, World.ownsRow_nil _ _ _ _, (fun a r e => by cases e)⟩, HF.out, HGF.out⟩
theorem rm_entry0 {p : Nat} {o : Rs} {w : World} (h : RM p o w) (res : K.Rd R.En) (H : Hid (run R.takeEn o = res)) :
    Calls Try.prog 61 #[rdP p, .func (.func 62) #[] #[]] w fun x w' => (∃ (z : R.En) (v : Value), x = .returned (enV z v) ∧ w'.ownsRow w.heap.size 57 2 v z.b.events.length (evCells z.b.events) ∧ (∀ a r, res = Sum.inl (a, r) → z = a)) ∧ RM p (rest res) w' ∧ w.grownBy w' (some p) := by
  obtain ⟨left, err, hc, hl, ho⟩ := h
  match o, ho with
  | .inr e, ho => exact rm_entry_err hc hl (by rw [ho.1]; exact ho.2) res (by rw [ho.1]; exact H.out.symm)
  | .inl l, ho =>
    obtain ⟨h0, rfl⟩ := ho
    have hres : R.takeEn left = res := H.out
    rcases res with ⟨a, r⟩ | e
    · exact rm_entry_ok hc hl h0 a r (Lib.hid hres) _ rfl
    · exact rm_entry_bad hc hl h0 e (Lib.hid hres) _ rfl
end Go.Proofs.Ytljcgpdjhjkciaa
