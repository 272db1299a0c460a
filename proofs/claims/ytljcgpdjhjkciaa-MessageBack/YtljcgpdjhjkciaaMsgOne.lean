/-
  The reader of package message: the methods event, entry and outcome.
-/
import Derived.Test.YtljcgpdjhjkciaaMsgReaderE
import Derived.Test.YtljcgpdjhjkciaaMsgReaderB
namespace Go.Proofs.Ytljcgpdjhjkciaa
open Go.RowKit
attribute [local go_sem] ext_Bd ext_Bl ext_Bt toList_B add_B size_B get_Bt

set_option maxHeartbeats 4000000 in
set_option maxRecDepth 100000 in
theorem rm_event {p : Nat} {o : Rs} {w : World} (h : RM p o w) (res : K.Rd E.Ev) (H : Hid (run E.takeEv o = res)) :
    Calls Try.prog 48 #[rdP p] w fun x w' => (∃ z : E.Ev, x = .returned (evV z) ∧ (∀ a r, res = Sum.inl (a, r) → z = a)) ∧ RM p (rest res) w' ∧ w.grownBy w' (some p) := by
  have hlt := h.lt
  have HA0 : Hid ((w.alloc (.cells #[.string ⟨#[]⟩, .string ⟨#[]⟩] 57)).heap[w.heap.size]? = some (.cells #[.string ⟨#[]⟩, .string ⟨#[]⟩] 57 (0, 0))) := Lib.hid (new_at rfl)
  have HH := Lib.hid (rm_event0 (h.new (.cells #[.string ⟨#[]⟩, .string ⟨#[]⟩] 57)) res H)
  clear h H
  go_enter Try.func48, Try.ntmps48
  go_wp2_with fail
  refine HH.out.mono ?_
  rintro x w1 ⟨⟨z, rfl, hz⟩, h1, hg1⟩
  have HZ := Lib.hid hz
  clear hz
  obtain ⟨zk, zd⟩ := z
  dsimp only [evV]
  have HM := Lib.hid h1
  have HA := Lib.hid (block_kept HA0.out hg1 (by omega))
  have HGW : Hid (w.grownBy w1 (some p)) := Lib.hid ((World.grownBy_alloc w _ _).trans hg1)
  clear h1 hg1 HA0 HH
  have a0 := block_cell HA.out 0
  have a1 := block_cell HA.out 1
  simp at a0 a1
  have l0 := block_loose HA.out 0
  have l1 := block_loose HA.out 1
  go_wp2
  have HK : Hid ((((w1.setCell ⟨w.heap.size, 0, none⟩ (.string (B zk))).setCell ⟨w.heap.size, 1, none⟩ (.string (B zd)))).heap[w.heap.size]? = some (.cells #[.string (B zk), .string (B zd)] 57 (0, 0))) := Lib.hid (set_block (set_block (HA.out) 0 (.string (B zk))) 1 (.string (B zd)))
  have HF : Hid (RM p (rest res) (((w1.setCell ⟨w.heap.size, 0, none⟩ (.string (B zk))).setCell ⟨w.heap.size, 1, none⟩ (.string (B zd))))) := Lib.hid (by
    obtain ⟨left, err, hc, h2⟩ := HM.out
    exact ⟨left, err, ((hc.other (by omega) 0 _).other (by omega) 1 _), h2⟩)
  have HG : Hid (w.grownBy (((w1.setCell ⟨w.heap.size, 0, none⟩ (.string (B zk))).setCell ⟨w.heap.size, 1, none⟩ (.string (B zd)))) (some p)) := Lib.hid (grown_box (grown_box (HGW.out) (Nat.le_refl _) 0 _) (Nat.le_refl _) 1 _)
  generalize ((w1.setCell ⟨w.heap.size, 0, none⟩ (.string (B zk))).setCell ⟨w.heap.size, 1, none⟩ (.string (B zd))) = w9 at HK HF HG ⊢
  have k0 := block_cell HK.out 0
  have k1 := block_cell HK.out 1
  simp at k0 k1
  exact bodyPost_ret (v := .agg #[.string (B zk), .string (B zd)]) (by simp [results, Try.results48, go_sem, k0, k1]) rfl ⟨⟨(zk, zd), rfl, HZ.out⟩, HF.out, HG.out⟩

set_option maxHeartbeats 4000000 in
set_option maxRecDepth 100000 in
theorem rm_entry {p : Nat} {o : Rs} {w : World} (h : RM p o w) (res : K.Rd R.En) (H : Hid (run R.takeEn o = res)) :
    Calls Try.prog 41 #[rdP p] w fun x w' => (∃ (z : R.En) (v : Value), x = .returned (enV z v) ∧ w'.ownsRow w.heap.size 57 2 v z.b.events.length (evCells z.b.events) ∧ (∀ a r, res = Sum.inl (a, r) → z = a)) ∧ RM p (rest res) w' ∧ w.grownBy w' (some p) := by
  have hlt := h.lt
  have HA0 : Hid ((w.alloc (.cells #[.int .i64 0, .int .i64 0, .string ⟨#[]⟩, .int .i64 0, .int .i64 0, .int .i64 0, .slice none 0 0] 55)).heap[w.heap.size]? = some (.cells #[.int .i64 0, .int .i64 0, .string ⟨#[]⟩, .int .i64 0, .int .i64 0, .int .i64 0, .slice none 0 0] 55 (0, 0))) := Lib.hid (new_at rfl)
  have HH := Lib.hid (rm_entry0 (h.new (.cells #[.int .i64 0, .int .i64 0, .string ⟨#[]⟩, .int .i64 0, .int .i64 0, .int .i64 0, .slice none 0 0] 55)) res H)
  clear h H
  go_enter Try.func41, Try.ntmps41
  go_wp2_with fail
  refine HH.out.mono ?_
  rintro x w1 ⟨⟨z, u, rfl, how, hz⟩, h1, hg1⟩
  have HZ := Lib.hid hz
  have HOW := Lib.hid (own_base5 (b := w.heap.size) how (by simp only [World.size_alloc]; omega))
  obtain ⟨ua, uc, rfl, -⟩ := own_slice how
  clear hz how
  obtain ⟨pos, ep, ⟨st, ex, se, sq, evs⟩⟩ := z
  dsimp only [enV]
  have HM := Lib.hid h1
  have HA := Lib.hid (block_kept HA0.out hg1 (by omega))
  have HGW : Hid (w.grownBy w1 (some p)) := Lib.hid ((World.grownBy_alloc w _ _).trans hg1)
  clear h1 hg1 HA0 HH
  have a0 := block_cell HA.out 0
  have a1 := block_cell HA.out 1
  have a2 := block_cell HA.out 2
  have a3 := block_cell HA.out 3
  have a4 := block_cell HA.out 4
  have a5 := block_cell HA.out 5
  have a6 := block_cell HA.out 6
  simp at a0 a1 a2 a3 a4 a5 a6
  have l0 := block_loose HA.out 0
  have l1 := block_loose HA.out 1
  have l2 := block_loose HA.out 2
  have l3 := block_loose HA.out 3
  have l4 := block_loose HA.out 4
  have l5 := block_loose HA.out 5
  have l6 := block_loose HA.out 6
  go_wp2
  have HK : Hid (((((((((w1.setCell ⟨w.heap.size, 0, none⟩ (.int .i64 pos)).setCell ⟨w.heap.size, 1, none⟩ (.int .i64 ep)).setCell ⟨w.heap.size, 2, none⟩ (.string (B st))).setCell ⟨w.heap.size, 3, none⟩ (.int .i64 ex)).setCell ⟨w.heap.size, 4, none⟩ (.int .i64 se)).setCell ⟨w.heap.size, 5, none⟩ (.int .i64 sq)).setCell ⟨w.heap.size, 6, none⟩ (.slice ua evs.length uc))).heap[w.heap.size]? = some (.cells #[.int .i64 pos, .int .i64 ep, .string (B st), .int .i64 ex, .int .i64 se, .int .i64 sq, .slice ua evs.length uc] 55 (0, 0))) := Lib.hid (set_block (set_block (set_block (set_block (set_block (set_block (set_block (HA.out) 0 (.int .i64 pos)) 1 (.int .i64 ep)) 2 (.string (B st))) 3 (.int .i64 ex)) 4 (.int .i64 se)) 5 (.int .i64 sq)) 6 (.slice ua evs.length uc))
  have HF : Hid (RM p (rest res) ((((((((w1.setCell ⟨w.heap.size, 0, none⟩ (.int .i64 pos)).setCell ⟨w.heap.size, 1, none⟩ (.int .i64 ep)).setCell ⟨w.heap.size, 2, none⟩ (.string (B st))).setCell ⟨w.heap.size, 3, none⟩ (.int .i64 ex)).setCell ⟨w.heap.size, 4, none⟩ (.int .i64 se)).setCell ⟨w.heap.size, 5, none⟩ (.int .i64 sq)).setCell ⟨w.heap.size, 6, none⟩ (.slice ua evs.length uc)))) := Lib.hid (by
    obtain ⟨left, err, hc, h2⟩ := HM.out
    exact ⟨left, err, (((((((hc.other (by omega) 0 _).other (by omega) 1 _).other (by omega) 2 _).other (by omega) 3 _).other (by omega) 4 _).other (by omega) 5 _).other (by omega) 6 _), h2⟩)
  have HG : Hid (w.grownBy ((((((((w1.setCell ⟨w.heap.size, 0, none⟩ (.int .i64 pos)).setCell ⟨w.heap.size, 1, none⟩ (.int .i64 ep)).setCell ⟨w.heap.size, 2, none⟩ (.string (B st))).setCell ⟨w.heap.size, 3, none⟩ (.int .i64 ex)).setCell ⟨w.heap.size, 4, none⟩ (.int .i64 se)).setCell ⟨w.heap.size, 5, none⟩ (.int .i64 sq)).setCell ⟨w.heap.size, 6, none⟩ (.slice ua evs.length uc))) (some p)) := Lib.hid (grown_box (grown_box (grown_box (grown_box (grown_box (grown_box (grown_box (HGW.out) (Nat.le_refl _) 0 _) (Nat.le_refl _) 1 _) (Nat.le_refl _) 2 _) (Nat.le_refl _) 3 _) (Nat.le_refl _) 4 _) (Nat.le_refl _) 5 _) (Nat.le_refl _) 6 _)
  have ho0 := own_other HOW.out HA.out (by decide) 0 (.int .i64 pos)
  have hs0 := set_block HA.out 0 (.int .i64 pos)
  have ho1 := own_other ho0 hs0 (by decide) 1 (.int .i64 ep)
  have hs1 := set_block hs0 1 (.int .i64 ep)
  have ho2 := own_other ho1 hs1 (by decide) 2 (.string (B st))
  have hs2 := set_block hs1 2 (.string (B st))
  have ho3 := own_other ho2 hs2 (by decide) 3 (.int .i64 ex)
  have hs3 := set_block hs2 3 (.int .i64 ex)
  have ho4 := own_other ho3 hs3 (by decide) 4 (.int .i64 se)
  have hs4 := set_block hs3 4 (.int .i64 se)
  have ho5 := own_other ho4 hs4 (by decide) 5 (.int .i64 sq)
  have hs5 := set_block hs4 5 (.int .i64 sq)
  have ho6 := own_other ho5 hs5 (by decide) 6 (.slice ua evs.length uc)
  have hs6 := set_block hs5 6 (.slice ua evs.length uc)
  have HOF := Lib.hid ho6
  clear ho0 hs0 ho1 hs1 ho2 hs2 ho3 hs3 ho4 hs4 ho5 hs5 ho6 hs6
  generalize (((((((w1.setCell ⟨w.heap.size, 0, none⟩ (.int .i64 pos)).setCell ⟨w.heap.size, 1, none⟩ (.int .i64 ep)).setCell ⟨w.heap.size, 2, none⟩ (.string (B st))).setCell ⟨w.heap.size, 3, none⟩ (.int .i64 ex)).setCell ⟨w.heap.size, 4, none⟩ (.int .i64 se)).setCell ⟨w.heap.size, 5, none⟩ (.int .i64 sq)).setCell ⟨w.heap.size, 6, none⟩ (.slice ua evs.length uc)) = w9 at HK HF HG HOF ⊢
  have k0 := block_cell HK.out 0
  have k1 := block_cell HK.out 1
  have k2 := block_cell HK.out 2
  have k3 := block_cell HK.out 3
  have k4 := block_cell HK.out 4
  have k5 := block_cell HK.out 5
  have k6 := block_cell HK.out 6
  simp at k0 k1 k2 k3 k4 k5 k6
  exact bodyPost_ret (v := .agg #[.int .i64 pos, .int .i64 ep, .string (B st), .int .i64 ex, .int .i64 se, .int .i64 sq, .slice ua evs.length uc]) (by simp [results, Try.results41, go_sem, k0, k1, k2, k3, k4, k5, k6]) rfl ⟨⟨⟨pos, ep, ⟨st, ex, se, sq, evs⟩⟩, _, rfl, HOF.out, HZ.out⟩, HF.out, HG.out⟩

set_option maxHeartbeats 4000000 in
set_option maxRecDepth 100000 in
theorem rm_outcome {p : Nat} {o : Rs} {w : World} (h : RM p o w) (res1 res2 res3 res4 : K.Rd Int) (H1 : Hid (run M.takeI o = res1)) (H2 : Hid (run M.takeI (rest res1) = res2)) (H3 : Hid (run M.takeI (rest res2) = res3)) (H4 : Hid (run M.takeI (rest res3) = res4)) :
    Calls Try.prog 46 #[rdP p] w fun x w' => (∃ z1 z2 z3 z4 : Int, x = .returned (.agg #[.int .i64 z1, .int .i64 z2, .int .i64 z3, .int .i64 z4]) ∧ (∀ a r, res1 = Sum.inl (a, r) → z1 = a) ∧ (∀ a r, res2 = Sum.inl (a, r) → z2 = a) ∧ (∀ a r, res3 = Sum.inl (a, r) → z3 = a) ∧ (∀ a r, res4 = Sum.inl (a, r) → z4 = a)) ∧ RM p (rest res4) w' ∧ w.grownBy w' (some p) := by
  have hlt := h.lt
  have HA0 : Hid ((w.alloc (.cells #[.int .i64 0, .int .i64 0, .int .i64 0, .int .i64 0] 81)).heap[w.heap.size]? = some (.cells #[.int .i64 0, .int .i64 0, .int .i64 0, .int .i64 0] 81 (0, 0))) := Lib.hid (new_at rfl)
  have HM0 := Lib.hid (h.new (.cells #[.int .i64 0, .int .i64 0, .int .i64 0, .int .i64 0] 81))
  have HG0 : Hid ((w.alloc (.cells #[.int .i64 0, .int .i64 0, .int .i64 0, .int .i64 0] 81)).grownBy (w.alloc (.cells #[.int .i64 0, .int .i64 0, .int .i64 0, .int .i64 0] 81)) (some p)) := Lib.hid (grown_refl _ _)
  clear h
  go_enter Try.func46, Try.ntmps46
  go_wp2_with fail
  refine (rm_number HM0.out res1 H1).mono ?_
  rintro x w1 ⟨⟨z1, rfl, hz⟩, h1, hg1⟩
  have HZ1 := Lib.hid hz
  have HM1 := Lib.hid h1
  have HG1 := Lib.hid (HG0.out.trans hg1)
  clear hz h1 hg1 HM0 HG0
  go_wp2_with fail
  refine (rm_number HM1.out res2 H2).mono ?_
  rintro x w2 ⟨⟨z2, rfl, hz⟩, h1, hg1⟩
  have HZ2 := Lib.hid hz
  have HM2 := Lib.hid h1
  have HG2 := Lib.hid (HG1.out.trans hg1)
  clear hz h1 hg1 HM1 HG1
  go_wp2_with fail
  refine (rm_number HM2.out res3 H3).mono ?_
  rintro x w3 ⟨⟨z3, rfl, hz⟩, h1, hg1⟩
  have HZ3 := Lib.hid hz
  have HM3 := Lib.hid h1
  have HG3 := Lib.hid (HG2.out.trans hg1)
  clear hz h1 hg1 HM2 HG2
  go_wp2_with fail
  refine (rm_number HM3.out res4 H4).mono ?_
  rintro x w4 ⟨⟨z4, rfl, hz⟩, h1, hg1⟩
  have HZ4 := Lib.hid hz
  have HM4 := Lib.hid h1
  have HG4 := Lib.hid (HG3.out.trans hg1)
  clear hz h1 hg1 HM3 HG3
  have HA := Lib.hid (block_kept HA0.out HG4.out (by omega))
  have HGW : Hid (w.grownBy w4 (some p)) := Lib.hid ((World.grownBy_alloc w _ _).trans HG4.out)
  clear HA0 HG4
  have a0 := block_cell HA.out 0
  have a1 := block_cell HA.out 1
  have a2 := block_cell HA.out 2
  have a3 := block_cell HA.out 3
  simp at a0 a1 a2 a3
  have l0 := block_loose HA.out 0
  have l1 := block_loose HA.out 1
  have l2 := block_loose HA.out 2
  have l3 := block_loose HA.out 3
  go_wp2
  have HK : Hid ((((((w4.setCell ⟨w.heap.size, 0, none⟩ (.int .i64 z1)).setCell ⟨w.heap.size, 1, none⟩ (.int .i64 z2)).setCell ⟨w.heap.size, 2, none⟩ (.int .i64 z3)).setCell ⟨w.heap.size, 3, none⟩ (.int .i64 z4))).heap[w.heap.size]? = some (.cells #[.int .i64 z1, .int .i64 z2, .int .i64 z3, .int .i64 z4] 81 (0, 0))) := Lib.hid (set_block (set_block (set_block (set_block (HA.out) 0 (.int .i64 z1)) 1 (.int .i64 z2)) 2 (.int .i64 z3)) 3 (.int .i64 z4))
  have HF : Hid (RM p (rest res4) (((((w4.setCell ⟨w.heap.size, 0, none⟩ (.int .i64 z1)).setCell ⟨w.heap.size, 1, none⟩ (.int .i64 z2)).setCell ⟨w.heap.size, 2, none⟩ (.int .i64 z3)).setCell ⟨w.heap.size, 3, none⟩ (.int .i64 z4)))) := Lib.hid (by
    obtain ⟨left, err, hc, h2⟩ := HM4.out
    exact ⟨left, err, ((((hc.other (by omega) 0 _).other (by omega) 1 _).other (by omega) 2 _).other (by omega) 3 _), h2⟩)
  have HG : Hid (w.grownBy (((((w4.setCell ⟨w.heap.size, 0, none⟩ (.int .i64 z1)).setCell ⟨w.heap.size, 1, none⟩ (.int .i64 z2)).setCell ⟨w.heap.size, 2, none⟩ (.int .i64 z3)).setCell ⟨w.heap.size, 3, none⟩ (.int .i64 z4))) (some p)) := Lib.hid (grown_box (grown_box (grown_box (grown_box (HGW.out) (Nat.le_refl _) 0 _) (Nat.le_refl _) 1 _) (Nat.le_refl _) 2 _) (Nat.le_refl _) 3 _)
  generalize ((((w4.setCell ⟨w.heap.size, 0, none⟩ (.int .i64 z1)).setCell ⟨w.heap.size, 1, none⟩ (.int .i64 z2)).setCell ⟨w.heap.size, 2, none⟩ (.int .i64 z3)).setCell ⟨w.heap.size, 3, none⟩ (.int .i64 z4)) = w9 at HK HF HG ⊢
  have k0 := block_cell HK.out 0
  have k1 := block_cell HK.out 1
  have k2 := block_cell HK.out 2
  have k3 := block_cell HK.out 3
  simp at k0 k1 k2 k3
  exact bodyPost_ret (v := .agg #[.int .i64 z1, .int .i64 z2, .int .i64 z3, .int .i64 z4]) (by simp [results, Try.results46, go_sem, k0, k1, k2, k3]) rfl ⟨⟨z1, z2, z3, z4, rfl, HZ1.out, HZ2.out, HZ3.out, HZ4.out⟩, HF.out, HG.out⟩
end Go.Proofs.Ytljcgpdjhjkciaa
