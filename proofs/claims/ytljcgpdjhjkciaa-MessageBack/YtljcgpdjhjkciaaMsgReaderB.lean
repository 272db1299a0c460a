/-
  The reader of package message: a batch.
-/
import Derived.Test.YtljcgpdjhjkciaaMsgReader2
namespace Go.Proofs.Ytljcgpdjhjkciaa
open Go.RowKit
attribute [local go_sem] ext_Bd ext_Bl ext_Bt toList_B add_B size_B get_Bt

set_option maxHeartbeats 4000000 in
set_option maxRecDepth 100000 in
theorem rm_batch_err {p : Nat} {w : World} {left : List UInt8} {err : Nat} (hc : RC p left err w) (hl : left.length ≤ 1000000) (hpos : 0 < err) (res : K.Rd E.Bat) (hres : res = Sum.inr err) :
    Calls Try.prog 42 #[rdP p, .func (.func 43) #[] #[]] w fun x w' => (∃ (z : E.Bat) (v : Value), x = .returned (batV z v) ∧ (∃ a n c, v = .slice a n c) ∧ (∀ a r, res = Sum.inl (a, r) → z = a ∧ w'.ownsRow w.heap.size 57 2 v z.events.length (evCells z.events))) ∧ RM p (rest res) w' ∧ w.grownBy w' (some p) := by
  obtain ⟨hA4, hA5, hB⟩ := two_new w (.cells #[.string ⟨#[]⟩, .int .i64 0, .int .i64 0, .int .i64 0, .slice none 0 0] 28) (.cells #[.string ⟨#[]⟩, .int .i64 0, .int .i64 0, .int .i64 0, .slice none 0 0] 28)
  have hplt : p < w.heap.size := (Array.getElem?_eq_some_iff.1 hc).1
  have hc2 := hc.low hB
  have HC := Lib.hid hc2
  obtain ⟨c0, c1, l0, l1⟩ := hc2.cells
  subst hres
  obtain ⟨h1, h2⟩ := err_bd hpos
  have hrlen := hl
  obtain ⟨W9, HW9⟩ : ∃ W9, Hid ((w.alloc (.cells #[.string ⟨#[]⟩, .int .i64 0, .int .i64 0, .int .i64 0, .slice none 0 0] 28)).alloc (.cells #[.string ⟨#[]⟩, .int .i64 0, .int .i64 0, .int .i64 0, .slice none 0 0] 28) = W9) := ⟨_, Lib.hid rfl⟩
  have HA4 : Hid (W9.heap[w.heap.size]? = some (.cells #[.string ⟨#[]⟩, .int .i64 0, .int .i64 0, .int .i64 0, .slice none 0 0] 28 (0, 0))) := Lib.hid (by rw [← HW9.out]; exact hA4)
  have HA5 : Hid (W9.heap[w.heap.size + 1]? = some (.cells #[.string ⟨#[]⟩, .int .i64 0, .int .i64 0, .int .i64 0, .slice none 0 0] 28 (0, 0))) := Lib.hid (by rw [← HW9.out]; exact hA5)
  have HRC : Hid (RC p left err W9) := Lib.hid (by rw [← HW9.out]; exact HC.out)
  have HG : Hid (w.grownBy W9 (some p)) := Lib.hid (by rw [← HW9.out]; exact grown_below hB)
  clear hc hA4 hA5 hB hc2 HC
  go_enter Try.func42, Try.ntmps42
  go_upto_region 4 with (fail)
  rw [HW9.out]
  clear HW9 c0 c1 l0 l1
  have x0 := block_cell HA5.out 0
  have x1 := block_cell HA5.out 1
  have x2 := block_cell HA5.out 2
  have x3 := block_cell HA5.out 3
  have x4 := block_cell HA5.out 4
  simp at x0 x1 x2 x3 x4
  have y0 := block_cell HA4.out 0
  have y1 := block_cell HA4.out 1
  have y2 := block_cell HA4.out 2
  have y3 := block_cell HA4.out 3
  have y4 := block_cell HA4.out 4
  simp at y0 y1 y2 y3 y4
  have m0 := block_loose HA4.out 0
  have m1 := block_loose HA4.out 1
  have m2 := block_loose HA4.out 2
  have m3 := block_loose HA4.out 3
  have m4 := block_loose HA4.out 4
  go_wp2
  have HK : Hid (((((((W9.setCell ⟨w.heap.size, 0, none⟩ (.string ⟨#[]⟩)).setCell ⟨w.heap.size, 1, none⟩ (.int .i64 0)).setCell ⟨w.heap.size, 2, none⟩ (.int .i64 0)).setCell ⟨w.heap.size, 3, none⟩ (.int .i64 0)).setCell ⟨w.heap.size, 4, none⟩ (.slice none 0 0))).heap[w.heap.size]? = some (.cells #[.string ⟨#[]⟩, .int .i64 0, .int .i64 0, .int .i64 0, .slice none 0 0] 28 (0, 0))) := Lib.hid (set_block (set_block (set_block (set_block (set_block (HA4.out) 0 (.string ⟨#[]⟩)) 1 (.int .i64 0)) 2 (.int .i64 0)) 3 (.int .i64 0)) 4 (.slice none 0 0))
  have HF : Hid (RM p (.inr err) ((((((W9.setCell ⟨w.heap.size, 0, none⟩ (.string ⟨#[]⟩)).setCell ⟨w.heap.size, 1, none⟩ (.int .i64 0)).setCell ⟨w.heap.size, 2, none⟩ (.int .i64 0)).setCell ⟨w.heap.size, 3, none⟩ (.int .i64 0)).setCell ⟨w.heap.size, 4, none⟩ (.slice none 0 0)))) := Lib.hid ⟨left, err, by exact (((((HRC.out.other (by omega) 0 _).other (by omega) 1 _).other (by omega) 2 _).other (by omega) 3 _).other (by omega) 4 _), by first | exact hrlen | simp | omega, by first | exact ⟨rfl, rfl⟩ | exact ⟨rfl, hpos⟩⟩
  have HGF : Hid (w.grownBy ((((((W9.setCell ⟨w.heap.size, 0, none⟩ (.string ⟨#[]⟩)).setCell ⟨w.heap.size, 1, none⟩ (.int .i64 0)).setCell ⟨w.heap.size, 2, none⟩ (.int .i64 0)).setCell ⟨w.heap.size, 3, none⟩ (.int .i64 0)).setCell ⟨w.heap.size, 4, none⟩ (.slice none 0 0))) (some p)) := Lib.hid (grown_box (grown_box (grown_box (grown_box (grown_box (HG.out) (Nat.le_refl _) 0 _) (Nat.le_refl _) 1 _) (Nat.le_refl _) 2 _) (Nat.le_refl _) 3 _) (Nat.le_refl _) 4 _)
  generalize (((((W9.setCell ⟨w.heap.size, 0, none⟩ (.string ⟨#[]⟩)).setCell ⟨w.heap.size, 1, none⟩ (.int .i64 0)).setCell ⟨w.heap.size, 2, none⟩ (.int .i64 0)).setCell ⟨w.heap.size, 3, none⟩ (.int .i64 0)).setCell ⟨w.heap.size, 4, none⟩ (.slice none 0 0)) = w9 at HK HF HGF ⊢
  have k0 := block_cell HK.out 0
  have k1 := block_cell HK.out 1
  have k2 := block_cell HK.out 2
  have k3 := block_cell HK.out 3
  have k4 := block_cell HK.out 4
  simp at k0 k1 k2 k3 k4
  exact bodyPost_ret (v := .agg #[.string ⟨#[]⟩, .int .i64 0, .int .i64 0, .int .i64 0, .slice none 0 0]) (by simp [results, Try.results42, go_sem, k0, k1, k2, k3, k4]) rfl ⟨⟨⟨[], 0, 0, 0, []⟩, _, rfl, ⟨_, _, _, rfl⟩, (fun a r e => by cases e)⟩, HF.out, HGF.out⟩

set_option maxHeartbeats 4000000 in
set_option maxRecDepth 100000 in
theorem rm_batch_ok {p : Nat} {w : World} {left : List UInt8} {err : Nat} (hc : RC p left err w) (hl : left.length ≤ 1000000) (herr : err = 0) (a : E.Bat) (r : List UInt8) (HR : Hid (E.takeBat left = Sum.inl (a, r))) (res : K.Rd E.Bat) (hres : res = Sum.inl (a, r)) :
    Calls Try.prog 42 #[rdP p, .func (.func 43) #[] #[]] w fun x w' => (∃ (z : E.Bat) (v : Value), x = .returned (batV z v) ∧ (∃ a n c, v = .slice a n c) ∧ (∀ a r, res = Sum.inl (a, r) → z = a ∧ w'.ownsRow w.heap.size 57 2 v z.events.length (evCells z.events))) ∧ RM p (rest res) w' ∧ w.grownBy w' (some p) := by
  obtain ⟨hA4, hA5, hB⟩ := two_new w (.cells #[.string ⟨#[]⟩, .int .i64 0, .int .i64 0, .int .i64 0, .slice none 0 0] 28) (.cells #[.string ⟨#[]⟩, .int .i64 0, .int .i64 0, .int .i64 0, .slice none 0 0] 28)
  have hplt : p < w.heap.size := (Array.getElem?_eq_some_iff.1 hc).1
  have hc2 := hc.low hB
  have HC := Lib.hid hc2
  obtain ⟨c0, c1, l0, l1⟩ := hc2.cells
  subst hres herr
  have HA4a := Lib.hid hA4
  have HA5a := Lib.hid hA5
  have HBB := Lib.hid hB
  clear hc hA4 hA5 hB hc2
  obtain ⟨st, ex, se, sq, evs⟩ := a
  have HQ : Hid (batRes (E.takeBat left) = (⟨st, ex, se, sq, evs⟩, r, 0)) := Lib.hid (by rw [HR.out]; rfl)
  go_enter Try.func42, Try.ntmps42
  go_wp2_with fail
  refine (ETakeBat_own left ⟨st, ex, se, sq, evs⟩ r _ (by omega) HQ).mono ?_
  rintro x w1 ⟨u, rfl, how1, hb1⟩
  have HOW1 := Lib.hid (own_base5 (b := w.heap.size) how1 (by simp only [World.size_alloc]; omega))
  obtain ⟨ua, uc, rfl, -⟩ := own_slice how1
  dsimp only [batV]
  clear how1
  have HC1 := Lib.hid (HC.out.low hb1)
  have HA41 := Lib.hid (block_below HA4a.out hb1)
  have HA51 := Lib.hid (block_below HA5a.out hb1)
  have HG1 := Lib.hid ((grown_below HBB.out).trans (grown_below (row := some p) hb1))
  have hrlen : r.length ≤ 1000000 := by have := congrArg List.length (E.batC.inv left _ r HR.out).1; rw [List.length_append] at this; omega
  clear hb1 HC HA4a HA5a HBB c0 c1 l0 l1
  obtain ⟨c0, c1, l0, l1⟩ := HC1.out.cells
  have b0 := block_cell HA51.out 0
  have b1 := block_cell HA51.out 1
  have b2 := block_cell HA51.out 2
  have b3 := block_cell HA51.out 3
  have b4 := block_cell HA51.out 4
  simp at b0 b1 b2 b3 b4
  have f0 := block_loose HA51.out 0
  have f1 := block_loose HA51.out 1
  have f2 := block_loose HA51.out 2
  have f3 := block_loose HA51.out 3
  have f4 := block_loose HA51.out 4
  go_upto_region 4 with (fail)
  have HA5 : Hid ((((((((w1.setCell ⟨w.heap.size + 1, 0, none⟩ (.string (B st))).setCell ⟨w.heap.size + 1, 1, none⟩ (.int .i64 ex)).setCell ⟨w.heap.size + 1, 2, none⟩ (.int .i64 se)).setCell ⟨w.heap.size + 1, 3, none⟩ (.int .i64 sq)).setCell ⟨w.heap.size + 1, 4, none⟩ (.slice ua evs.length uc)).setCell ⟨p, 0, none⟩ (.string (B r))).setCell ⟨p, 1, none⟩ (.int .i64 ((0 : Nat) : Int))).heap[w.heap.size + 1]? = some (.cells #[.string (B st), .int .i64 ex, .int .i64 se, .int .i64 sq, .slice ua evs.length uc] 28 (0, 0))) := Lib.hid (set_other (set_other (set_block (set_block (set_block (set_block (set_block (HA51.out) 0 (.string (B st))) 1 (.int .i64 ex)) 2 (.int .i64 se)) 3 (.int .i64 sq)) 4 (.slice ua evs.length uc)) (by omega) 0 _) (by omega) 1 _)
  have HA4 : Hid ((((((((w1.setCell ⟨w.heap.size + 1, 0, none⟩ (.string (B st))).setCell ⟨w.heap.size + 1, 1, none⟩ (.int .i64 ex)).setCell ⟨w.heap.size + 1, 2, none⟩ (.int .i64 se)).setCell ⟨w.heap.size + 1, 3, none⟩ (.int .i64 sq)).setCell ⟨w.heap.size + 1, 4, none⟩ (.slice ua evs.length uc)).setCell ⟨p, 0, none⟩ (.string (B r))).setCell ⟨p, 1, none⟩ (.int .i64 ((0 : Nat) : Int))).heap[w.heap.size]? = some (.cells #[.string ⟨#[]⟩, .int .i64 0, .int .i64 0, .int .i64 0, .slice none 0 0] 28 (0, 0))) := Lib.hid (set_other (set_other (set_other (set_other (set_other (set_other (set_other HA41.out (by omega) 0 _) (by omega) 1 _) (by omega) 2 _) (by omega) 3 _) (by omega) 4 _) (by omega) 0 _) (by omega) 1 _)
  have HRC : Hid (RC p r 0 (((((((w1.setCell ⟨w.heap.size + 1, 0, none⟩ (.string (B st))).setCell ⟨w.heap.size + 1, 1, none⟩ (.int .i64 ex)).setCell ⟨w.heap.size + 1, 2, none⟩ (.int .i64 se)).setCell ⟨w.heap.size + 1, 3, none⟩ (.int .i64 sq)).setCell ⟨w.heap.size + 1, 4, none⟩ (.slice ua evs.length uc)).setCell ⟨p, 0, none⟩ (.string (B r))).setCell ⟨p, 1, none⟩ (.int .i64 ((0 : Nat) : Int)))) := Lib.hid (RC.set (((((HC1.out.other (by omega) 0 _).other (by omega) 1 _).other (by omega) 2 _).other (by omega) 3 _).other (by omega) 4 _))
  have HG : Hid (w.grownBy (((((((w1.setCell ⟨w.heap.size + 1, 0, none⟩ (.string (B st))).setCell ⟨w.heap.size + 1, 1, none⟩ (.int .i64 ex)).setCell ⟨w.heap.size + 1, 2, none⟩ (.int .i64 se)).setCell ⟨w.heap.size + 1, 3, none⟩ (.int .i64 sq)).setCell ⟨w.heap.size + 1, 4, none⟩ (.slice ua evs.length uc)).setCell ⟨p, 0, none⟩ (.string (B r))).setCell ⟨p, 1, none⟩ (.int .i64 ((0 : Nat) : Int))) (some p)) := Lib.hid (grown_two (grown_box (grown_box (grown_box (grown_box (grown_box (HG1.out) (by omega) 0 _) (by omega) 1 _) (by omega) 2 _) (by omega) 3 _) (by omega) 4 _) _ _)
  have ho0 := own_other HOW1.out HA51.out (by decide) 0 (.string (B st))
  have hs0 := set_block HA51.out 0 (.string (B st))
  have ho1 := own_other ho0 hs0 (by decide) 1 (.int .i64 ex)
  have hs1 := set_block hs0 1 (.int .i64 ex)
  have ho2 := own_other ho1 hs1 (by decide) 2 (.int .i64 se)
  have hs2 := set_block hs1 2 (.int .i64 se)
  have ho3 := own_other ho2 hs2 (by decide) 3 (.int .i64 sq)
  have hs3 := set_block hs2 3 (.int .i64 sq)
  have ho4 := own_other ho3 hs3 (by decide) 4 (.slice ua evs.length uc)
  have hs4 := set_block hs3 4 (.slice ua evs.length uc)
  have hpc : RC p left 0 (((((w1.setCell ⟨w.heap.size + 1, 0, none⟩ (.string (B st))).setCell ⟨w.heap.size + 1, 1, none⟩ (.int .i64 ex)).setCell ⟨w.heap.size + 1, 2, none⟩ (.int .i64 se)).setCell ⟨w.heap.size + 1, 3, none⟩ (.int .i64 sq)).setCell ⟨w.heap.size + 1, 4, none⟩ (.slice ua evs.length uc)) := (((((HC1.out.other (by omega) 0 _).other (by omega) 1 _).other (by omega) 2 _).other (by omega) 3 _).other (by omega) 4 _)
  have hq0 := own_other ho4 hpc (by decide) 0 (.string (B r))
  have hq1 := own_other hq0 (set_block hpc 0 (.string (B r))) (by decide) 1 (.int .i64 ((0 : Nat) : Int))
  have HOW := Lib.hid hq1
  clear hq0 hq1 hpc ho0 hs0 ho1 hs1 ho2 hs2 ho3 hs3 ho4 hs4
  generalize (((((((w1.setCell ⟨w.heap.size + 1, 0, none⟩ (.string (B st))).setCell ⟨w.heap.size + 1, 1, none⟩ (.int .i64 ex)).setCell ⟨w.heap.size + 1, 2, none⟩ (.int .i64 se)).setCell ⟨w.heap.size + 1, 3, none⟩ (.int .i64 sq)).setCell ⟨w.heap.size + 1, 4, none⟩ (.slice ua evs.length uc)).setCell ⟨p, 0, none⟩ (.string (B r))).setCell ⟨p, 1, none⟩ (.int .i64 ((0 : Nat) : Int))) = W9 at HA5 HA4 HRC HG HOW ⊢
  clear HC1 HA41 HA51 HG1 HOW1 c0 c1 l0 l1 b0 f0 b1 f1 b2 f2 b3 f3 b4 f4
  have x0 := block_cell HA5.out 0
  have x1 := block_cell HA5.out 1
  have x2 := block_cell HA5.out 2
  have x3 := block_cell HA5.out 3
  have x4 := block_cell HA5.out 4
  simp at x0 x1 x2 x3 x4
  have y0 := block_cell HA4.out 0
  have y1 := block_cell HA4.out 1
  have y2 := block_cell HA4.out 2
  have y3 := block_cell HA4.out 3
  have y4 := block_cell HA4.out 4
  simp at y0 y1 y2 y3 y4
  have m0 := block_loose HA4.out 0
  have m1 := block_loose HA4.out 1
  have m2 := block_loose HA4.out 2
  have m3 := block_loose HA4.out 3
  have m4 := block_loose HA4.out 4
  go_wp2
  have HK : Hid (((((((W9.setCell ⟨w.heap.size, 0, none⟩ (.string (B st))).setCell ⟨w.heap.size, 1, none⟩ (.int .i64 ex)).setCell ⟨w.heap.size, 2, none⟩ (.int .i64 se)).setCell ⟨w.heap.size, 3, none⟩ (.int .i64 sq)).setCell ⟨w.heap.size, 4, none⟩ (.slice ua evs.length uc))).heap[w.heap.size]? = some (.cells #[.string (B st), .int .i64 ex, .int .i64 se, .int .i64 sq, .slice ua evs.length uc] 28 (0, 0))) := Lib.hid (set_block (set_block (set_block (set_block (set_block (HA4.out) 0 (.string (B st))) 1 (.int .i64 ex)) 2 (.int .i64 se)) 3 (.int .i64 sq)) 4 (.slice ua evs.length uc))
  have HF : Hid (RM p (.inl r) ((((((W9.setCell ⟨w.heap.size, 0, none⟩ (.string (B st))).setCell ⟨w.heap.size, 1, none⟩ (.int .i64 ex)).setCell ⟨w.heap.size, 2, none⟩ (.int .i64 se)).setCell ⟨w.heap.size, 3, none⟩ (.int .i64 sq)).setCell ⟨w.heap.size, 4, none⟩ (.slice ua evs.length uc)))) := Lib.hid ⟨r, 0, by exact (((((HRC.out.other (by omega) 0 _).other (by omega) 1 _).other (by omega) 2 _).other (by omega) 3 _).other (by omega) 4 _), by first | exact hrlen | simp | omega, by first | exact ⟨rfl, rfl⟩ | exact ⟨rfl, hpos⟩⟩
  have HGF : Hid (w.grownBy ((((((W9.setCell ⟨w.heap.size, 0, none⟩ (.string (B st))).setCell ⟨w.heap.size, 1, none⟩ (.int .i64 ex)).setCell ⟨w.heap.size, 2, none⟩ (.int .i64 se)).setCell ⟨w.heap.size, 3, none⟩ (.int .i64 sq)).setCell ⟨w.heap.size, 4, none⟩ (.slice ua evs.length uc))) (some p)) := Lib.hid (grown_box (grown_box (grown_box (grown_box (grown_box (HG.out) (Nat.le_refl _) 0 _) (Nat.le_refl _) 1 _) (Nat.le_refl _) 2 _) (Nat.le_refl _) 3 _) (Nat.le_refl _) 4 _)
  have ho0 := own_other HOW.out HA4.out (by decide) 0 (.string (B st))
  have hs0 := set_block HA4.out 0 (.string (B st))
  have ho1 := own_other ho0 hs0 (by decide) 1 (.int .i64 ex)
  have hs1 := set_block hs0 1 (.int .i64 ex)
  have ho2 := own_other ho1 hs1 (by decide) 2 (.int .i64 se)
  have hs2 := set_block hs1 2 (.int .i64 se)
  have ho3 := own_other ho2 hs2 (by decide) 3 (.int .i64 sq)
  have hs3 := set_block hs2 3 (.int .i64 sq)
  have ho4 := own_other ho3 hs3 (by decide) 4 (.slice ua evs.length uc)
  have hs4 := set_block hs3 4 (.slice ua evs.length uc)
  have HOF := Lib.hid ho4
  clear ho0 hs0 ho1 hs1 ho2 hs2 ho3 hs3 ho4 hs4
  generalize (((((W9.setCell ⟨w.heap.size, 0, none⟩ (.string (B st))).setCell ⟨w.heap.size, 1, none⟩ (.int .i64 ex)).setCell ⟨w.heap.size, 2, none⟩ (.int .i64 se)).setCell ⟨w.heap.size, 3, none⟩ (.int .i64 sq)).setCell ⟨w.heap.size, 4, none⟩ (.slice ua evs.length uc)) = w9 at HK HF HGF HOF ⊢
  have k0 := block_cell HK.out 0
  have k1 := block_cell HK.out 1
  have k2 := block_cell HK.out 2
  have k3 := block_cell HK.out 3
  have k4 := block_cell HK.out 4
  simp at k0 k1 k2 k3 k4
  exact bodyPost_ret (v := .agg #[.string (B st), .int .i64 ex, .int .i64 se, .int .i64 sq, .slice ua evs.length uc]) (by simp [results, Try.results42, go_sem, k0, k1, k2, k3, k4]) rfl ⟨⟨⟨st, ex, se, sq, evs⟩, _, rfl, ⟨_, _, _, rfl⟩, (by first | (intro _ _ e; cases e; exact ⟨rfl, HOF.out⟩) | exact ⟨rfl, HOF.out⟩)⟩, HF.out, HGF.out⟩

set_option maxHeartbeats 4000000 in
set_option maxRecDepth 100000 in
theorem rm_batch_bad {p : Nat} {w : World} {left : List UInt8} {err : Nat} (hc : RC p left err w) (hl : left.length ≤ 1000000) (herr : err = 0) (e : Nat) (HR : Hid (E.takeBat left = Sum.inr e)) (res : K.Rd E.Bat) (hres : res = Sum.inr e) :
    Calls Try.prog 42 #[rdP p, .func (.func 43) #[] #[]] w fun x w' => (∃ (z : E.Bat) (v : Value), x = .returned (batV z v) ∧ (∃ a n c, v = .slice a n c) ∧ (∀ a r, res = Sum.inl (a, r) → z = a ∧ w'.ownsRow w.heap.size 57 2 v z.events.length (evCells z.events))) ∧ RM p (rest res) w' ∧ w.grownBy w' (some p) := by
  obtain ⟨hA4, hA5, hB⟩ := two_new w (.cells #[.string ⟨#[]⟩, .int .i64 0, .int .i64 0, .int .i64 0, .slice none 0 0] 28) (.cells #[.string ⟨#[]⟩, .int .i64 0, .int .i64 0, .int .i64 0, .slice none 0 0] 28)
  have hplt : p < w.heap.size := (Array.getElem?_eq_some_iff.1 hc).1
  have hc2 := hc.low hB
  have HC := Lib.hid hc2
  obtain ⟨c0, c1, l0, l1⟩ := hc2.cells
  subst hres herr
  have HA4a := Lib.hid hA4
  have HA5a := Lib.hid hA5
  have HBB := Lib.hid hB
  clear hc hA4 hA5 hB hc2
  have hpos := E.bat_errs left e HR.out
  have HQ : Hid (batRes (E.takeBat left) = (⟨[], 0, 0, 0, []⟩, [], e)) := Lib.hid (by rw [HR.out]; rfl)
  go_enter Try.func42, Try.ntmps42
  go_wp2_with fail
  refine (ETakeBat_at left ⟨[], 0, 0, 0, []⟩ [] e _ (by omega) HQ).mono ?_
  rintro x w1 ⟨u, rfl, hre1, hb1⟩
  obtain ⟨ua, uc, rfl, -⟩ := hre1
  dsimp only [batV]
  have HC1 := Lib.hid (HC.out.low hb1)
  have HA41 := Lib.hid (block_below HA4a.out hb1)
  have HA51 := Lib.hid (block_below HA5a.out hb1)
  have HG1 := Lib.hid ((grown_below HBB.out).trans (grown_below (row := some p) hb1))
  have hrlen : ([] : List UInt8).length ≤ 1000000 := by simp
  clear hb1 HC HA4a HA5a HBB c0 c1 l0 l1
  obtain ⟨c0, c1, l0, l1⟩ := HC1.out.cells
  have b0 := block_cell HA51.out 0
  have b1 := block_cell HA51.out 1
  have b2 := block_cell HA51.out 2
  have b3 := block_cell HA51.out 3
  have b4 := block_cell HA51.out 4
  simp at b0 b1 b2 b3 b4
  have f0 := block_loose HA51.out 0
  have f1 := block_loose HA51.out 1
  have f2 := block_loose HA51.out 2
  have f3 := block_loose HA51.out 3
  have f4 := block_loose HA51.out 4
  go_upto_region 4 with (fail)
  have HA5 : Hid ((((((((w1.setCell ⟨w.heap.size + 1, 0, none⟩ (.string (B []))).setCell ⟨w.heap.size + 1, 1, none⟩ (.int .i64 0)).setCell ⟨w.heap.size + 1, 2, none⟩ (.int .i64 0)).setCell ⟨w.heap.size + 1, 3, none⟩ (.int .i64 0)).setCell ⟨w.heap.size + 1, 4, none⟩ (.slice ua 0 uc)).setCell ⟨p, 0, none⟩ (.string (B []))).setCell ⟨p, 1, none⟩ (.int .i64 (e : Int))).heap[w.heap.size + 1]? = some (.cells #[.string (B []), .int .i64 0, .int .i64 0, .int .i64 0, .slice ua 0 uc] 28 (0, 0))) := Lib.hid (set_other (set_other (set_block (set_block (set_block (set_block (set_block (HA51.out) 0 (.string (B []))) 1 (.int .i64 0)) 2 (.int .i64 0)) 3 (.int .i64 0)) 4 (.slice ua 0 uc)) (by omega) 0 _) (by omega) 1 _)
  have HA4 : Hid ((((((((w1.setCell ⟨w.heap.size + 1, 0, none⟩ (.string (B []))).setCell ⟨w.heap.size + 1, 1, none⟩ (.int .i64 0)).setCell ⟨w.heap.size + 1, 2, none⟩ (.int .i64 0)).setCell ⟨w.heap.size + 1, 3, none⟩ (.int .i64 0)).setCell ⟨w.heap.size + 1, 4, none⟩ (.slice ua 0 uc)).setCell ⟨p, 0, none⟩ (.string (B []))).setCell ⟨p, 1, none⟩ (.int .i64 (e : Int))).heap[w.heap.size]? = some (.cells #[.string ⟨#[]⟩, .int .i64 0, .int .i64 0, .int .i64 0, .slice none 0 0] 28 (0, 0))) := Lib.hid (set_other (set_other (set_other (set_other (set_other (set_other (set_other HA41.out (by omega) 0 _) (by omega) 1 _) (by omega) 2 _) (by omega) 3 _) (by omega) 4 _) (by omega) 0 _) (by omega) 1 _)
  have HRC : Hid (RC p [] e (((((((w1.setCell ⟨w.heap.size + 1, 0, none⟩ (.string (B []))).setCell ⟨w.heap.size + 1, 1, none⟩ (.int .i64 0)).setCell ⟨w.heap.size + 1, 2, none⟩ (.int .i64 0)).setCell ⟨w.heap.size + 1, 3, none⟩ (.int .i64 0)).setCell ⟨w.heap.size + 1, 4, none⟩ (.slice ua 0 uc)).setCell ⟨p, 0, none⟩ (.string (B []))).setCell ⟨p, 1, none⟩ (.int .i64 (e : Int)))) := Lib.hid (RC.set (((((HC1.out.other (by omega) 0 _).other (by omega) 1 _).other (by omega) 2 _).other (by omega) 3 _).other (by omega) 4 _))
  have HG : Hid (w.grownBy (((((((w1.setCell ⟨w.heap.size + 1, 0, none⟩ (.string (B []))).setCell ⟨w.heap.size + 1, 1, none⟩ (.int .i64 0)).setCell ⟨w.heap.size + 1, 2, none⟩ (.int .i64 0)).setCell ⟨w.heap.size + 1, 3, none⟩ (.int .i64 0)).setCell ⟨w.heap.size + 1, 4, none⟩ (.slice ua 0 uc)).setCell ⟨p, 0, none⟩ (.string (B []))).setCell ⟨p, 1, none⟩ (.int .i64 (e : Int))) (some p)) := Lib.hid (grown_two (grown_box (grown_box (grown_box (grown_box (grown_box (HG1.out) (by omega) 0 _) (by omega) 1 _) (by omega) 2 _) (by omega) 3 _) (by omega) 4 _) _ _)
  generalize (((((((w1.setCell ⟨w.heap.size + 1, 0, none⟩ (.string (B []))).setCell ⟨w.heap.size + 1, 1, none⟩ (.int .i64 0)).setCell ⟨w.heap.size + 1, 2, none⟩ (.int .i64 0)).setCell ⟨w.heap.size + 1, 3, none⟩ (.int .i64 0)).setCell ⟨w.heap.size + 1, 4, none⟩ (.slice ua 0 uc)).setCell ⟨p, 0, none⟩ (.string (B []))).setCell ⟨p, 1, none⟩ (.int .i64 (e : Int))) = W9 at HA5 HA4 HRC HG ⊢
  clear HC1 HA41 HA51 HG1 c0 c1 l0 l1 b0 f0 b1 f1 b2 f2 b3 f3 b4 f4
  have x0 := block_cell HA5.out 0
  have x1 := block_cell HA5.out 1
  have x2 := block_cell HA5.out 2
  have x3 := block_cell HA5.out 3
  have x4 := block_cell HA5.out 4
  simp at x0 x1 x2 x3 x4
  have y0 := block_cell HA4.out 0
  have y1 := block_cell HA4.out 1
  have y2 := block_cell HA4.out 2
  have y3 := block_cell HA4.out 3
  have y4 := block_cell HA4.out 4
  simp at y0 y1 y2 y3 y4
  have m0 := block_loose HA4.out 0
  have m1 := block_loose HA4.out 1
  have m2 := block_loose HA4.out 2
  have m3 := block_loose HA4.out 3
  have m4 := block_loose HA4.out 4
  go_wp2
  have HK : Hid (((((((W9.setCell ⟨w.heap.size, 0, none⟩ (.string (B []))).setCell ⟨w.heap.size, 1, none⟩ (.int .i64 0)).setCell ⟨w.heap.size, 2, none⟩ (.int .i64 0)).setCell ⟨w.heap.size, 3, none⟩ (.int .i64 0)).setCell ⟨w.heap.size, 4, none⟩ (.slice ua 0 uc))).heap[w.heap.size]? = some (.cells #[.string (B []), .int .i64 0, .int .i64 0, .int .i64 0, .slice ua 0 uc] 28 (0, 0))) := Lib.hid (set_block (set_block (set_block (set_block (set_block (HA4.out) 0 (.string (B []))) 1 (.int .i64 0)) 2 (.int .i64 0)) 3 (.int .i64 0)) 4 (.slice ua 0 uc))
  have HF : Hid (RM p (.inr e) ((((((W9.setCell ⟨w.heap.size, 0, none⟩ (.string (B []))).setCell ⟨w.heap.size, 1, none⟩ (.int .i64 0)).setCell ⟨w.heap.size, 2, none⟩ (.int .i64 0)).setCell ⟨w.heap.size, 3, none⟩ (.int .i64 0)).setCell ⟨w.heap.size, 4, none⟩ (.slice ua 0 uc)))) := Lib.hid ⟨[], e, by exact (((((HRC.out.other (by omega) 0 _).other (by omega) 1 _).other (by omega) 2 _).other (by omega) 3 _).other (by omega) 4 _), by first | exact hrlen | simp | omega, by first | exact ⟨rfl, rfl⟩ | exact ⟨rfl, hpos⟩⟩
  have HGF : Hid (w.grownBy ((((((W9.setCell ⟨w.heap.size, 0, none⟩ (.string (B []))).setCell ⟨w.heap.size, 1, none⟩ (.int .i64 0)).setCell ⟨w.heap.size, 2, none⟩ (.int .i64 0)).setCell ⟨w.heap.size, 3, none⟩ (.int .i64 0)).setCell ⟨w.heap.size, 4, none⟩ (.slice ua 0 uc))) (some p)) := Lib.hid (grown_box (grown_box (grown_box (grown_box (grown_box (HG.out) (Nat.le_refl _) 0 _) (Nat.le_refl _) 1 _) (Nat.le_refl _) 2 _) (Nat.le_refl _) 3 _) (Nat.le_refl _) 4 _)
  generalize (((((W9.setCell ⟨w.heap.size, 0, none⟩ (.string (B []))).setCell ⟨w.heap.size, 1, none⟩ (.int .i64 0)).setCell ⟨w.heap.size, 2, none⟩ (.int .i64 0)).setCell ⟨w.heap.size, 3, none⟩ (.int .i64 0)).setCell ⟨w.heap.size, 4, none⟩ (.slice ua 0 uc)) = w9 at HK HF HGF ⊢
  have k0 := block_cell HK.out 0
  have k1 := block_cell HK.out 1
  have k2 := block_cell HK.out 2
  have k3 := block_cell HK.out 3
  have k4 := block_cell HK.out 4
  simp at k0 k1 k2 k3 k4
  exact bodyPost_ret (v := .agg #[.string (B []), .int .i64 0, .int .i64 0, .int .i64 0, .slice ua 0 uc]) (by simp [results, Try.results42, go_sem, k0, k1, k2, k3, k4]) rfl ⟨⟨⟨[], 0, 0, 0, []⟩, _, rfl, ⟨_, _, _, rfl⟩, (fun a r e => by cases e)⟩, HF.out, HGF.out⟩
theorem rm_batch0 {p : Nat} {o : Rs} {w : World} (h : RM p o w) (res : K.Rd E.Bat) (H : Hid (run E.takeBat o = res)) :
    Calls Try.prog 42 #[rdP p, .func (.func 43) #[] #[]] w fun x w' => (∃ (z : E.Bat) (v : Value), x = .returned (batV z v) ∧ (∃ a n c, v = .slice a n c) ∧ (∀ a r, res = Sum.inl (a, r) → z = a ∧ w'.ownsRow w.heap.size 57 2 v z.events.length (evCells z.events))) ∧ RM p (rest res) w' ∧ w.grownBy w' (some p) := by
  obtain ⟨left, err, hc, hl, ho⟩ := h
  match o, ho with
  | .inr e, ho => exact rm_batch_err hc hl (by rw [ho.1]; exact ho.2) res (by rw [ho.1]; exact H.out.symm)
  | .inl l, ho =>
    obtain ⟨h0, rfl⟩ := ho
    have hres : E.takeBat left = res := H.out
    rcases res with ⟨a, r⟩ | e
    · exact rm_batch_ok hc hl h0 a r (Lib.hid hres) _ rfl
    · exact rm_batch_bad hc hl h0 e (Lib.hid hres) _ rfl
end Go.Proofs.Ytljcgpdjhjkciaa
