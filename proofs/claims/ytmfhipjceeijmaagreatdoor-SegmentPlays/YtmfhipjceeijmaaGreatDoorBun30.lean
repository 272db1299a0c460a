/-
  Own texts, joined: RecordTakeErr RecordTakeRow RecordRefTake
-/
import Derived.Test.YtmfhipjceeijmaaGreatDoorBun29
import Derived.Deep.DeepCutAuto
import Derived.Test.YtmfhipjceeijmaaGreatDoorBun27

/-
  The walk of record.Take at bytes that hold no right entry.
-/
namespace Go.Proofs.YtmfhipjceeijmaaGreatDoor
open Go.RowKit
attribute [local go_sem] ext_Bd ext_Bl ext_Bt toList_B add_B size_B get_Bt

abbrev zeroE : Value := .agg #[.int .i64 0, .int .i64 0, .string ⟨#[]⟩, .int .i64 0, .int .i64 0, .int .i64 0, .slice none 0 0]
theorem bat_small {l r : List UInt8} {b : E.Bat} (h : E.takeBat l = Sum.inl (b, r)) : E.Small b := by
  have h2 := (E.batC.inv l b r h).2.2
  have hf : E.fits b = 0 := by simpa using h2
  obtain ⟨⟨hst, _⟩, _, hall⟩ := E.fits_inv hf
  have := (nameL_len hst).2
  refine E.Small.of (by omega) fun e he => ?_
  have := E.right_bd (List.all_eq_true.1 hall e he)
  omega

set_option maxHeartbeats 4000000 in
set_option maxRecDepth 100000 in
theorem Take6_bad (s : List UInt8) (c : Nat) (w : World) (hl : s.length ≤ 1000000) (H : Hid (R.takeEn s = Sum.inr c)) :
    Calls Tryz.prog 104 #[.string (B s)] w fun x w' => x = .returned (.tuple #[zeroE, .string (B []), .int .i64 c]) ∧ Below w.heap.size w w' := by
  rcases N.takeL_cases s with ⟨e, ht⟩ | ⟨m, r, ht⟩
  · have hpos := K.num_errs s e ht
    have hei : ((e : Int) == 0) = false := beq_eq_false_iff_ne.2 (by omega)
    have hen : ¬ e = 0 := by omega
    obtain rfl : e = c := by
      have := H.out
      unfold R.takeEn at this
      rw [K.bind_bad _ ht] at this
      cases this; rfl
    have HT := Lib.hid ht
    clear ht H
    have HA0 : Hid ((w.alloc (.cells #[.int .i64 0, .int .i64 0, .string ⟨#[]⟩, .int .i64 0, .int .i64 0, .int .i64 0, .slice none 0 0] 53)).heap[w.heap.size]? = some (.cells #[.int .i64 0, .int .i64 0, .string ⟨#[]⟩, .int .i64 0, .int .i64 0, .int .i64 0, .slice none 0 0] 53 (0, 0))) := Lib.hid (heap_alloc_new w _)
    have HB0 : Hid (Below w.heap.size w (w.alloc (.cells #[.int .i64 0, .int .i64 0, .string ⟨#[]⟩, .int .i64 0, .int .i64 0, .int .i64 0, .slice none 0 0] 53))) := Lib.hid ((Below.refl _ w).alloc (Nat.le_refl _) _)
    go_enter Tryz.func104, Tryz.ntmps104
    go_wp2_with fail
    generalize w.alloc (.cells #[.int .i64 0, .int .i64 0, .string ⟨#[]⟩, .int .i64 0, .int .i64 0, .int .i64 0, .slice none 0 0] 53) = W at HA0 HB0 ⊢
    refine (Take_l s W (by omega)).mono ?_
    rintro x w1 ⟨rfl, n1, rfl⟩
    rw [HT.out, show tkRes (Sum.inr e) = _ from tkRes_bad e]
    obtain ⟨WW, HWW⟩ : ∃ WW, Hid (W.drewN n1 = WW) := ⟨_, Lib.hid rfl⟩
    have HA : Hid (WW.heap[w.heap.size]? = some (.cells #[.int .i64 0, .int .i64 0, .string ⟨#[]⟩, .int .i64 0, .int .i64 0, .int .i64 0, .slice none 0 0] 53 (0, 0))) := Lib.hid (by rw [← HWW.out]; exact HA0.out)
    have HB : Hid (Below w.heap.size w WW) := Lib.hid (by rw [← HWW.out]; exact below_drewN HB0.out n1)
    rw [HWW.out]
    clear HWW HA0 HB0
    have a0 := block_cell HA.out 0
    have a1 := block_cell HA.out 1
    have a2 := block_cell HA.out 2
    have a3 := block_cell HA.out 3
    have a4 := block_cell HA.out 4
    have a5 := block_cell HA.out 5
    have a6 := block_cell HA.out 6
    simp only [List.getElem?_toArray, List.getElem?_cons_zero, List.getElem?_cons_succ] at a0 a1 a2 a3 a4 a5 a6
    have l0 := block_loose HA.out 0
    have l1 := block_loose HA.out 1
    have l2 := block_loose HA.out 2
    have l3 := block_loose HA.out 3
    have l4 := block_loose HA.out 4
    have l5 := block_loose HA.out 5
    have l6 := block_loose HA.out 6
    go_wp2
    have HK := Lib.hid (set_seven (a0 := .int .i64 0) (a1 := .int .i64 0) (a2 := .string ⟨#[]⟩) (a3 := .int .i64 0) (a4 := .int .i64 0) (a5 := .int .i64 0) (a6 := .slice none 0 0) HA.out)
    have HB9 := Lib.hid (below_seven HB.out (Nat.le_refl _) (.int .i64 0) (.int .i64 0) (.string ⟨#[]⟩) (.int .i64 0) (.int .i64 0) (.int .i64 0) (.slice none 0 0))
    generalize ((((((WW.setCell ⟨w.heap.size, 0, none⟩ (.int .i64 0)).setCell ⟨w.heap.size, 1, none⟩ (.int .i64 0)).setCell ⟨w.heap.size, 2, none⟩ (.string ⟨#[]⟩)).setCell ⟨w.heap.size, 3, none⟩ (.int .i64 0)).setCell ⟨w.heap.size, 4, none⟩ (.int .i64 0)).setCell ⟨w.heap.size, 5, none⟩ (.int .i64 0)).setCell ⟨w.heap.size, 6, none⟩ (.slice none 0 0) = w9 at HK HB9 ⊢
    have k0 := block_cell HK.out 0
    have k1 := block_cell HK.out 1
    have k2 := block_cell HK.out 2
    have k3 := block_cell HK.out 3
    have k4 := block_cell HK.out 4
    have k5 := block_cell HK.out 5
    have k6 := block_cell HK.out 6
    simp only [List.getElem?_toArray, List.getElem?_cons_zero, List.getElem?_cons_succ] at k0 k1 k2 k3 k4 k5 k6
    exact bodyPost_ret (v := .tuple #[.agg #[.int .i64 0, .int .i64 0, .string ⟨#[]⟩, .int .i64 0, .int .i64 0, .int .i64 0, .slice none 0 0], .string ⟨#[]⟩, .int .i64 e]) (by simp [results, Tryz.results104, go_sem, k0, k1, k2, k3, k4, k5, k6]) rfl ⟨rfl, HB9.out⟩
  have hrl := takeL_len ht
  have HT := Lib.hid ht
  rcases N.takeL_cases r with ⟨e, ht2⟩ | ⟨m2, r2, ht2⟩
  · have hpos := K.num_errs r e ht2
    have hei : ((e : Int) == 0) = false := beq_eq_false_iff_ne.2 (by omega)
    have hen : ¬ e = 0 := by omega
    obtain rfl : e = c := by
      have := H.out
      unfold R.takeEn at this
      rw [K.bind_ok _ ht, K.bind_bad _ ht2] at this
      cases this; rfl
    have HT2 := Lib.hid ht2
    clear ht ht2 H
    have HA0 : Hid ((w.alloc (.cells #[.int .i64 0, .int .i64 0, .string ⟨#[]⟩, .int .i64 0, .int .i64 0, .int .i64 0, .slice none 0 0] 53)).heap[w.heap.size]? = some (.cells #[.int .i64 0, .int .i64 0, .string ⟨#[]⟩, .int .i64 0, .int .i64 0, .int .i64 0, .slice none 0 0] 53 (0, 0))) := Lib.hid (heap_alloc_new w _)
    have HB0 : Hid (Below w.heap.size w (w.alloc (.cells #[.int .i64 0, .int .i64 0, .string ⟨#[]⟩, .int .i64 0, .int .i64 0, .int .i64 0, .slice none 0 0] 53))) := Lib.hid ((Below.refl _ w).alloc (Nat.le_refl _) _)
    go_enter Tryz.func104, Tryz.ntmps104
    go_wp2_with fail
    generalize w.alloc (.cells #[.int .i64 0, .int .i64 0, .string ⟨#[]⟩, .int .i64 0, .int .i64 0, .int .i64 0, .slice none 0 0] 53) = W at HA0 HB0 ⊢
    refine (Take_l s W (by omega)).mono ?_
    rintro x w1 ⟨rfl, n1, rfl⟩
    rw [HT.out, show tkRes (Sum.inl (m, r)) = _ from tkRes_ok m r]
    go_wp2_with fail
    refine (Take_l r _ (by omega)).mono ?_
    rintro x w1 ⟨rfl, n2, rfl⟩
    rw [HT2.out, show tkRes (Sum.inr e) = _ from tkRes_bad e]
    obtain ⟨WW, HWW⟩ : ∃ WW, Hid ((W.drewN n1).drewN n2 = WW) := ⟨_, Lib.hid rfl⟩
    have HA : Hid (WW.heap[w.heap.size]? = some (.cells #[.int .i64 0, .int .i64 0, .string ⟨#[]⟩, .int .i64 0, .int .i64 0, .int .i64 0, .slice none 0 0] 53 (0, 0))) := Lib.hid (by rw [← HWW.out]; exact HA0.out)
    have HB : Hid (Below w.heap.size w WW) := Lib.hid (by rw [← HWW.out]; exact below_drewN (below_drewN HB0.out n1) n2)
    rw [HWW.out]
    clear HWW HA0 HB0
    have a0 := block_cell HA.out 0
    have a1 := block_cell HA.out 1
    have a2 := block_cell HA.out 2
    have a3 := block_cell HA.out 3
    have a4 := block_cell HA.out 4
    have a5 := block_cell HA.out 5
    have a6 := block_cell HA.out 6
    simp only [List.getElem?_toArray, List.getElem?_cons_zero, List.getElem?_cons_succ] at a0 a1 a2 a3 a4 a5 a6
    have l0 := block_loose HA.out 0
    have l1 := block_loose HA.out 1
    have l2 := block_loose HA.out 2
    have l3 := block_loose HA.out 3
    have l4 := block_loose HA.out 4
    have l5 := block_loose HA.out 5
    have l6 := block_loose HA.out 6
    go_wp2
    have HK := Lib.hid (set_seven (a0 := .int .i64 0) (a1 := .int .i64 0) (a2 := .string ⟨#[]⟩) (a3 := .int .i64 0) (a4 := .int .i64 0) (a5 := .int .i64 0) (a6 := .slice none 0 0) HA.out)
    have HB9 := Lib.hid (below_seven HB.out (Nat.le_refl _) (.int .i64 0) (.int .i64 0) (.string ⟨#[]⟩) (.int .i64 0) (.int .i64 0) (.int .i64 0) (.slice none 0 0))
    generalize ((((((WW.setCell ⟨w.heap.size, 0, none⟩ (.int .i64 0)).setCell ⟨w.heap.size, 1, none⟩ (.int .i64 0)).setCell ⟨w.heap.size, 2, none⟩ (.string ⟨#[]⟩)).setCell ⟨w.heap.size, 3, none⟩ (.int .i64 0)).setCell ⟨w.heap.size, 4, none⟩ (.int .i64 0)).setCell ⟨w.heap.size, 5, none⟩ (.int .i64 0)).setCell ⟨w.heap.size, 6, none⟩ (.slice none 0 0) = w9 at HK HB9 ⊢
    have k0 := block_cell HK.out 0
    have k1 := block_cell HK.out 1
    have k2 := block_cell HK.out 2
    have k3 := block_cell HK.out 3
    have k4 := block_cell HK.out 4
    have k5 := block_cell HK.out 5
    have k6 := block_cell HK.out 6
    simp only [List.getElem?_toArray, List.getElem?_cons_zero, List.getElem?_cons_succ] at k0 k1 k2 k3 k4 k5 k6
    exact bodyPost_ret (v := .tuple #[.agg #[.int .i64 0, .int .i64 0, .string ⟨#[]⟩, .int .i64 0, .int .i64 0, .int .i64 0, .slice none 0 0], .string ⟨#[]⟩, .int .i64 e]) (by simp [results, Tryz.results104, go_sem, k0, k1, k2, k3, k4, k5, k6]) rfl ⟨rfl, HB9.out⟩
  have hrl2 := takeL_len ht2
  have HT2 := Lib.hid ht2
  rcases K.cases (E.takeBat r2) with ⟨e, ht3⟩ | ⟨b, r3, ht3⟩
  · have hpos := E.bat_errs r2 e ht3
    have hei : ((e : Int) == 0) = false := beq_eq_false_iff_ne.2 (by omega)
    have hen : ¬ e = 0 := by omega
    obtain rfl : e = c := by
      have := H.out
      unfold R.takeEn at this
      rw [K.bind_ok _ ht, K.bind_ok _ ht2, K.bind_bad _ ht3] at this
      cases this; rfl
    have HT3 : Hid (batRes (E.takeBat r2) = (⟨[], 0, 0, 0, []⟩, [], e)) := Lib.hid (by rw [ht3]; rfl)
    clear ht ht2 ht3 H
    have HA0 : Hid ((w.alloc (.cells #[.int .i64 0, .int .i64 0, .string ⟨#[]⟩, .int .i64 0, .int .i64 0, .int .i64 0, .slice none 0 0] 53)).heap[w.heap.size]? = some (.cells #[.int .i64 0, .int .i64 0, .string ⟨#[]⟩, .int .i64 0, .int .i64 0, .int .i64 0, .slice none 0 0] 53 (0, 0))) := Lib.hid (heap_alloc_new w _)
    have HB0 : Hid (Below w.heap.size w (w.alloc (.cells #[.int .i64 0, .int .i64 0, .string ⟨#[]⟩, .int .i64 0, .int .i64 0, .int .i64 0, .slice none 0 0] 53))) := Lib.hid ((Below.refl _ w).alloc (Nat.le_refl _) _)
    go_enter Tryz.func104, Tryz.ntmps104
    go_wp2_with fail
    generalize w.alloc (.cells #[.int .i64 0, .int .i64 0, .string ⟨#[]⟩, .int .i64 0, .int .i64 0, .int .i64 0, .slice none 0 0] 53) = W at HA0 HB0 ⊢
    refine (Take_l s W (by omega)).mono ?_
    rintro x w1 ⟨rfl, n1, rfl⟩
    rw [HT.out, show tkRes (Sum.inl (m, r)) = _ from tkRes_ok m r]
    go_wp2_with fail
    refine (Take_l r _ (by omega)).mono ?_
    rintro x w1 ⟨rfl, n2, rfl⟩
    rw [HT2.out, show tkRes (Sum.inl (m2, r2)) = _ from tkRes_ok m2 r2]
    go_wp2_with fail
    refine (ETakeBat_at r2 ⟨[], 0, 0, 0, []⟩ [] e _ (by omega) HT3).mono ?_
    rintro x w2 ⟨u, rfl, hre, hb2⟩
    have hb2' : Below W.heap.size W w2 := ⟨hb2.os, hb2.tape, hb2.output, hb2.size, hb2.block⟩
    obtain ⟨WW, HWW⟩ : ∃ WW, Hid (w2.alloc (.cells #[.string (B []), .int .i64 0, .int .i64 0, .int .i64 0, u] 51) = WW) := ⟨_, Lib.hid rfl⟩
    have hb3 : Below W.heap.size W WW := by rw [← HWW.out]; exact hb2'.alloc hb2'.size _
    have HA : Hid (WW.heap[w.heap.size]? = some (.cells #[.int .i64 0, .int .i64 0, .string ⟨#[]⟩, .int .i64 0, .int .i64 0, .int .i64 0, .slice none 0 0] 53 (0, 0))) := Lib.hid (block_below HA0.out hb3)
    have HB : Hid (Below w.heap.size w WW) := Lib.hid (HB0.out.trans (hb3.mono HB0.out.size))
    obtain ⟨ua, uc, rfl, _⟩ := hre
    dsimp only [batV]
    clear HA0 HB0 hb2 hb2' hb3
    go_upto_region 9 with (fail)
    simp only [List.length_nil] at HWW
    first | rw [HWW.out] | skip
    have a0 := block_cell HA.out 0
    have a1 := block_cell HA.out 1
    have a2 := block_cell HA.out 2
    have a3 := block_cell HA.out 3
    have a4 := block_cell HA.out 4
    have a5 := block_cell HA.out 5
    have a6 := block_cell HA.out 6
    simp only [List.getElem?_toArray, List.getElem?_cons_zero, List.getElem?_cons_succ] at a0 a1 a2 a3 a4 a5 a6
    have l0 := block_loose HA.out 0
    have l1 := block_loose HA.out 1
    have l2 := block_loose HA.out 2
    have l3 := block_loose HA.out 3
    have l4 := block_loose HA.out 4
    have l5 := block_loose HA.out 5
    have l6 := block_loose HA.out 6
    go_wp2
    have HK := Lib.hid (set_seven (a0 := .int .i64 0) (a1 := .int .i64 0) (a2 := .string ⟨#[]⟩) (a3 := .int .i64 0) (a4 := .int .i64 0) (a5 := .int .i64 0) (a6 := .slice none 0 0) HA.out)
    have HB9 := Lib.hid (below_seven HB.out (Nat.le_refl _) (.int .i64 0) (.int .i64 0) (.string ⟨#[]⟩) (.int .i64 0) (.int .i64 0) (.int .i64 0) (.slice none 0 0))
    generalize ((((((WW.setCell ⟨w.heap.size, 0, none⟩ (.int .i64 0)).setCell ⟨w.heap.size, 1, none⟩ (.int .i64 0)).setCell ⟨w.heap.size, 2, none⟩ (.string ⟨#[]⟩)).setCell ⟨w.heap.size, 3, none⟩ (.int .i64 0)).setCell ⟨w.heap.size, 4, none⟩ (.int .i64 0)).setCell ⟨w.heap.size, 5, none⟩ (.int .i64 0)).setCell ⟨w.heap.size, 6, none⟩ (.slice none 0 0) = w9 at HK HB9 ⊢
    have k0 := block_cell HK.out 0
    have k1 := block_cell HK.out 1
    have k2 := block_cell HK.out 2
    have k3 := block_cell HK.out 3
    have k4 := block_cell HK.out 4
    have k5 := block_cell HK.out 5
    have k6 := block_cell HK.out 6
    simp only [List.getElem?_toArray, List.getElem?_cons_zero, List.getElem?_cons_succ] at k0 k1 k2 k3 k4 k5 k6
    exact bodyPost_ret (v := .tuple #[.agg #[.int .i64 0, .int .i64 0, .string ⟨#[]⟩, .int .i64 0, .int .i64 0, .int .i64 0, .slice none 0 0], .string ⟨#[]⟩, .int .i64 e]) (by simp [results, Tryz.results104, go_sem, k0, k1, k2, k3, k4, k5, k6]) rfl ⟨rfl, HB9.out⟩
  cases hr : R.right ⟨m, m2, b⟩
  · have HRT := Lib.hid hr
    obtain rfl : c = 2 := by
      have := H.out
      unfold R.takeEn at this
      rw [K.bind_ok _ ht, K.bind_ok _ ht2, K.bind_ok _ ht3, hr] at this
      cases this; rfl
    have HSM := Lib.hid (bat_small ht3)
    have HT3 : Hid (batRes (E.takeBat r2) = (b, r3, 0)) := Lib.hid (by rw [ht3]; rfl)
    obtain ⟨st, ex, se, sq, evs⟩ := b
    clear ht ht2 ht3 H hr
    have HA0 : Hid ((w.alloc (.cells #[.int .i64 0, .int .i64 0, .string ⟨#[]⟩, .int .i64 0, .int .i64 0, .int .i64 0, .slice none 0 0] 53)).heap[w.heap.size]? = some (.cells #[.int .i64 0, .int .i64 0, .string ⟨#[]⟩, .int .i64 0, .int .i64 0, .int .i64 0, .slice none 0 0] 53 (0, 0))) := Lib.hid (heap_alloc_new w _)
    have HB0 : Hid (Below w.heap.size w (w.alloc (.cells #[.int .i64 0, .int .i64 0, .string ⟨#[]⟩, .int .i64 0, .int .i64 0, .int .i64 0, .slice none 0 0] 53))) := Lib.hid ((Below.refl _ w).alloc (Nat.le_refl _) _)
    go_enter Tryz.func104, Tryz.ntmps104
    go_wp2_with fail
    generalize w.alloc (.cells #[.int .i64 0, .int .i64 0, .string ⟨#[]⟩, .int .i64 0, .int .i64 0, .int .i64 0, .slice none 0 0] 53) = W at HA0 HB0 ⊢
    refine (Take_l s W (by omega)).mono ?_
    rintro x w1 ⟨rfl, n1, rfl⟩
    rw [HT.out, show tkRes (Sum.inl (m, r)) = _ from tkRes_ok m r]
    go_wp2_with fail
    refine (Take_l r _ (by omega)).mono ?_
    rintro x w1 ⟨rfl, n2, rfl⟩
    rw [HT2.out, show tkRes (Sum.inl (m2, r2)) = _ from tkRes_ok m2 r2]
    go_wp2_with fail
    refine (ETakeBat_at r2 ⟨st, ex, se, sq, evs⟩ r3 0 _ (by omega) HT3).mono ?_
    rintro x w2 ⟨u, rfl, hre2, hb2⟩
    have hb2' : Below W.heap.size W w2 := ⟨hb2.os, hb2.tape, hb2.output, hb2.size, hb2.block⟩
    have HA2 := Lib.hid (block_below HA0.out hb2')
    have HB2 := Lib.hid (HB0.out.trans (hb2'.mono HB0.out.size))
    have HRE2 := Lib.hid hre2
    have hwl := lt_of_block HA2.out
    obtain ⟨ua, uc, rfl, _⟩ := hre2
    dsimp only [batV]
    clear hb2 hb2' HA0 HB0 HT HT2 HT3
    have HAL : Hid (∀ o1 o2, Below w2.heap.size w2 ((w2.alloc o1).alloc o2)) := Lib.hid fun o1 o2 => ((Below.refl _ w2).alloc (Nat.le_refl _) o1).alloc (by simp) o2
    go_wp2_with fail
    refine (Right6_at ⟨m, m2, ⟨st, ex, se, sq, evs⟩⟩ _ false _ (readsE_below HRE2.out (HAL.out _ _)) HSM.out HRT).mono ?_
    rintro x w3 ⟨rfl, hb3⟩
    obtain ⟨WW, rfl⟩ : ∃ WW, WW = w3 := ⟨_, rfl⟩
    have hb23 : Below w2.heap.size w2 WW := (HAL.out _ _).trans (hb3.mono (HAL.out _ _).size)
    have HA := Lib.hid (block_below HA2.out hb23)
    have HB := Lib.hid (HB2.out.trans (hb23.mono HB2.out.size))
    clear hb3 hb23 HAL HA2 HB2 HRE2
    have a0 := block_cell HA.out 0
    have a1 := block_cell HA.out 1
    have a2 := block_cell HA.out 2
    have a3 := block_cell HA.out 3
    have a4 := block_cell HA.out 4
    have a5 := block_cell HA.out 5
    have a6 := block_cell HA.out 6
    simp only [List.getElem?_toArray, List.getElem?_cons_zero, List.getElem?_cons_succ] at a0 a1 a2 a3 a4 a5 a6
    have l0 := block_loose HA.out 0
    have l1 := block_loose HA.out 1
    have l2 := block_loose HA.out 2
    have l3 := block_loose HA.out 3
    have l4 := block_loose HA.out 4
    have l5 := block_loose HA.out 5
    have l6 := block_loose HA.out 6
    go_wp2
    have HK := Lib.hid (set_seven (a0 := .int .i64 0) (a1 := .int .i64 0) (a2 := .string ⟨#[]⟩) (a3 := .int .i64 0) (a4 := .int .i64 0) (a5 := .int .i64 0) (a6 := .slice none 0 0) HA.out)
    have HB9 := Lib.hid (below_seven HB.out (Nat.le_refl _) (.int .i64 0) (.int .i64 0) (.string ⟨#[]⟩) (.int .i64 0) (.int .i64 0) (.int .i64 0) (.slice none 0 0))
    generalize ((((((WW.setCell ⟨w.heap.size, 0, none⟩ (.int .i64 0)).setCell ⟨w.heap.size, 1, none⟩ (.int .i64 0)).setCell ⟨w.heap.size, 2, none⟩ (.string ⟨#[]⟩)).setCell ⟨w.heap.size, 3, none⟩ (.int .i64 0)).setCell ⟨w.heap.size, 4, none⟩ (.int .i64 0)).setCell ⟨w.heap.size, 5, none⟩ (.int .i64 0)).setCell ⟨w.heap.size, 6, none⟩ (.slice none 0 0) = w9 at HK HB9 ⊢
    have k0 := block_cell HK.out 0
    have k1 := block_cell HK.out 1
    have k2 := block_cell HK.out 2
    have k3 := block_cell HK.out 3
    have k4 := block_cell HK.out 4
    have k5 := block_cell HK.out 5
    have k6 := block_cell HK.out 6
    simp only [List.getElem?_toArray, List.getElem?_cons_zero, List.getElem?_cons_succ] at k0 k1 k2 k3 k4 k5 k6
    exact bodyPost_ret (v := .tuple #[.agg #[.int .i64 0, .int .i64 0, .string ⟨#[]⟩, .int .i64 0, .int .i64 0, .int .i64 0, .slice none 0 0], .string ⟨#[]⟩, .int .i64 2]) (by simp [results, Tryz.results104, go_sem, k0, k1, k2, k3, k4, k5, k6]) rfl ⟨rfl, HB9.out⟩
  · exfalso
    have := H.out
    unfold R.takeEn at this
    rw [K.bind_ok _ ht, K.bind_ok _ ht2, K.bind_ok _ ht3, hr] at this
    cases this
end Go.Proofs.YtmfhipjceeijmaaGreatDoor

/-
  Walk of package record: TakeRow, of bytes of a row of right entries.
-/
namespace Go.Proofs.YtmfhipjceeijmaaGreatDoor
open Go.RowKit
attribute [local go_sem] ext_Bd ext_Bl ext_Bt toList_B add_B size_B get_Bt

/-- A row of entries that were taken. -/
structure RowT (w : World) (l : List R.En) (v : Value) (wr : World) (es : List EV) : Prop where
  ens : ensOf es = l
  own : wr.ownsRow w.heap.size 53 7 v es.length (enCells es)
  ev : ∀ p ∈ es, i64B p.1.pos ∧ ∃ bb, wr.ownsRow bb 92 2 p.2 p.1.b.events.length (evCells p.1.b.events)
  bel : Below w.heap.size w wr
theorem RowT.nil (w : World) : RowT w [] (.slice none 0 0) w [] := ⟨rfl, World.ownsRow_nil _ _ _ _, fun p hp => by simp at hp, Below.refl _ _⟩
theorem RowT.reads {w wr : World} {l : List R.En} {v : Value} {es : List EV} (h : RowT w l v wr es) : ReadsR wr v es :=
  readsR_own h.own fun p hp => by
    obtain ⟨h1, bb, h2⟩ := h.ev p hp
    exact ⟨readsE_own h2, h1⟩
theorem RowT.below {w wr w' : World} {l : List R.En} {v : Value} {es : List EV} (h : RowT w l v wr es) (hb : Below wr.heap.size wr w') : RowT w l v w' es :=
  ⟨h.ens, own_below5 h.own hb, fun p hp => by obtain ⟨h1, bb, h2⟩ := h.ev p hp; exact ⟨h1, bb, own_below5 h2 hb⟩, h.bel.trans (hb.mono h.bel.size)⟩
/-- A block that is no row's turns. -/
theorem RowT.box {w wr w' : World} {l : List R.En} {v : Value} {es : List EV} {g : Nat} (h : RowT w l v wr es) (hg : wr.heap[g]? = some zeroEn) (hne : v.ownBlock ≠ some g) (hk : ∀ k, k ≠ g → w'.heap[k]? = wr.heap[k]?) (hb : Below w.heap.size w w') : RowT w l v w' es := by
  refine ⟨h.ens, ⟨h.own.1, ?_⟩, fun p hp => ?_, hb⟩
  · rcases h.own.2 with hn | ⟨g2, cap, cur, rfl, hb2, hh, rest⟩
    · exact .inl hn
    · exact .inr ⟨g2, cap, cur, rfl, hb2, (hk g2 (fun e => hne (by simp [Value.ownBlock, e]))).trans hh, rest⟩
  · obtain ⟨h1, bb, h2⟩ := h.ev p hp
    exact ⟨h1, bb, own_zero h2 hg hk⟩
theorem ev_kept {w w' : World} {b1 b2 : Nat} {v1 v2 : Value} {n m : Nat} {xs ys : List Value} {o : Obj} (h : w.ownsRow b1 92 2 v1 n xs) (h2 : w.ownsRow b2 53 7 v2 m ys) (hg : (w.alloc o).grownBy w' v2.ownBlock) : w'.ownsRow b1 92 2 v1 n xs := by
  refine ⟨h.1, ?_⟩
  rcases h.2 with hn | ⟨g, cap, cur, rfl, hb, hh, rest⟩
  · exact .inl hn
  · have hl := lt_of_block hh
    refine .inr ⟨g, cap, cur, rfl, hb, ?_, rest⟩
    rw [hg.block g (by simp; omega) (fun e => ?_), Below.heap_alloc _ _ _ hl]
    · exact hh
    · rcases h2.2 with ⟨rfl, _⟩ | ⟨g2, cap2, cur2, rfl, _, hh2, _⟩
      · cases e
      · have e2 : g2 = g := by simpa [Value.ownBlock] using e.symm
        subst e2
        rw [hh2] at hh
        cases hh
theorem RowT.next {w wr w' : World} {l : List R.En} {v v' u : Value} {es : List EV} {e : R.En} {bb : Nat} {o : Obj} (h : RowT w l v wr es) (hp : i64B e.pos) (he : wr.ownsRow bb 92 2 u e.b.events.length (evCells e.b.events)) (hown : w'.ownsRow w.heap.size 53 7 v' (es.length + 1) (enCells es ++ evCells7 (e, u))) (hg : (wr.alloc o).grownBy w' v.ownBlock) : RowT w (l ++ [e]) v' w' (es ++ [(e, u)]) := by
  refine ⟨by simp [ensOf, ← h.ens], by rw [enCells_snoc, List.length_append]; exact hown, fun p hp2 => ?_, ?_⟩
  · rcases List.mem_append.1 hp2 with hp2 | hp2
    · obtain ⟨h1, bb, h2⟩ := h.ev p hp2
      exact ⟨h1, bb, ev_kept h2 h.own hg⟩
    · rw [List.mem_singleton] at hp2
      subst hp2
      exact ⟨hp, bb, ev_kept he h.own hg⟩
  · exact (h.bel.alloc h.bel.size o).grown hg (by have := h.bel.size; simp; omega) fun b hb => (h.own.lt b hb).1

end Go.Proofs.YtmfhipjceeijmaaGreatDoor

/-
  The document's answer to record.Take, walked.
-/
namespace Go.Proofs.YtmfhipjceeijmaaGreatDoor
open Go.RowKit
attribute [local go_sem] ext_Bd ext_Bl ext_Bt toList_B add_B size_B get_Bt

def enRes (o : K.Rd R.En) : R.En × List UInt8 × Nat :=
  match o with
  | Sum.inl (e, r) => (e, r, 0)
  | Sum.inr c => (⟨0, 0, ⟨[], 0, 0, 0, []⟩⟩, [], c)
theorem enRes_bad {o : K.Rd R.En} {k : Nat} (h : o = Sum.inr k) : enRes o = (⟨0, 0, ⟨[], 0, 0, 0, []⟩⟩, [], k) := by rw [h]; rfl
theorem enRes_ok {o : K.Rd R.En} {e : R.En} {r : List UInt8} (h : o = Sum.inl (e, r)) : enRes o = (e, r, 0) := by rw [h]; rfl
theorem takeEn_form {s r1 r2 r3 : List UInt8} {p q : Nat} {b : E.Bat} (h1 : N.takeL s = Sum.inl (p, r1)) (h2 : N.takeL r1 = Sum.inl (q, r2)) (h3 : E.takeBat r2 = Sum.inl (b, r3)) : R.takeEn s = if R.right ⟨p, q, b⟩ = true then Sum.inl (⟨p, q, b⟩, r3) else Sum.inr 2 := by
  unfold R.takeEn
  rw [K.bind_ok _ h1, K.bind_ok _ h2, K.bind_ok _ h3]

theorem bat_tiny {l r : List UInt8} {b : E.Bat} (h : E.takeBat l = Sum.inl (b, r)) : E.Tiny b := by
  have h2 := (E.batC.inv l b r h).2.2
  have hf : E.fits b = 0 := by simpa using h2
  obtain ⟨⟨hst, _⟩, _, hall⟩ := E.fits_inv hf
  have := (nameL_len hst).2
  refine ⟨by omega, fun _ e he => ?_⟩
  have := E.right_bd (List.all_eq_true.1 hall e he)
  omega
abbrev zEn : Obj := .cells #[.int .i64 0, .int .i64 0, .string (B []), .int .i64 0, .int .i64 0, .int .i64 0, .slice none 0 0] 53
structure TE (w w' : World) : Prop where
  res : w'.heap[w.heap.size]? = some zEn
  below : Below w.heap.size w w'
theorem TE.new (w : World) : TE w (w.alloc zEn) := ⟨World.alloc_heap_new w _, (Below.refl _ w).alloc (Nat.le_refl _) _⟩
theorem TE.call {w a b : World} (h : TE w a) (hb : Below a.heap.size a b) : TE w b := ⟨block_below h.res hb, h.below.trans (hb.mono h.below.size)⟩
/-- Events do not lie in a block of an entry that holds nothing. -/
theorem readsE_zero {w w' : World} {g : Nat} {v : Value} {evs : List E.Ev} (h : ReadsE w v evs) (hg : w.heap[g]? = some zEn) (hk : ∀ k, k ≠ g → w'.heap[k]? = w.heap[k]?) : ReadsE w' v evs := by
  obtain ⟨a, cap, hv, hc, hn, hx⟩ := h
  refine ⟨a, cap, hv, hc, hn, fun i hi => ?_⟩
  obtain ⟨b, o, ha, h0, h1⟩ := hx i hi
  have hne : b ≠ g := fun e => by
    subst e
    have e0 := (block_cell hg (o + i * 2)).symm.trans h0
    have e1 := (block_cell hg (o + i * 2 + 1)).symm.trans h1
    generalize o + i * 2 = j at e0 e1
    rcases j with _ | _ | _ | _ | _ | _ | _ | j
    all_goals first
      | (simp at e0; done)
      | (simp at e1; done)
  exact ⟨b, o, ha, by rw [show w'.cell? ⟨b, o + i * 2, none⟩ = w.cell? ⟨b, o + i * 2, none⟩ by simp [World.cell?, hk b hne]]; exact h0, by rw [show w'.cell? ⟨b, o + i * 2 + 1, none⟩ = w.cell? ⟨b, o + i * 2 + 1, none⟩ by simp [World.cell?, hk b hne]]; exact h1⟩
theorem readsE_belowB {w w' : World} {v : Value} {evs : List E.Ev} (h : ReadsE w v evs) (hb : Below w.heap.size w w') : ReadsE w' v evs := readsE_below h hb

set_option maxHeartbeats 4000000 in
set_option maxRecDepth 100000 in
theorem refTake6_at (s : List UInt8) (e : R.En) (r : List UInt8) (c : Nat) (w : World) (hs : s.length ≤ 1000000) (H : Hid (enRes (R.takeEn s) = (e, r, c))) :
    Calls Tryz.prog 45 #[.string (B s)] w fun x w' => ∃ v, x = .returned (.tuple #[enV e v, .string (B r), .int .i64 c]) ∧ ReadsE w' v e.b.events ∧ Below w.heap.size w w' := by
  have HB := Lib.hid (TE.new w)
  go_enter Tryz.func45, Tryz.ntmps45
  go_wp2_with fail
  refine (refTake_l s _ (by omega)).mono ?_
  rintro x w1 ⟨rfl, hq⟩
  have HB1 := Lib.hid (HB.out.call (below_ofq hq))
  clear HB hq
  rcases K.cases (N.takeL s) with ⟨k, ht⟩ | ⟨m, r1, ht⟩
  · have hpos := K.num_errs _ _ ht
    have hci : ((k : Int) == 0) = false := beq_eq_false_iff_ne.2 (by omega)
    have hcn : ¬ k = 0 := by omega
    have hev := H.out
    rw [enRes_bad (show R.takeEn s = Sum.inr k from K.bind_bad _ ht)] at hev
    cases hev
    rw [ht, show tkRes (Sum.inr c) = _ from tkRes_bad c]
    clear ht H
    have a0 := block_cell HB1.out.res 0
    have a1 := block_cell HB1.out.res 1
    have a2 := block_cell HB1.out.res 2
    have a3 := block_cell HB1.out.res 3
    have a4 := block_cell HB1.out.res 4
    have a5 := block_cell HB1.out.res 5
    have a6 := block_cell HB1.out.res 6
    simp at a0 a1 a2 a3 a4 a5 a6
    have l0 := block_loose HB1.out.res 0
    have l1 := block_loose HB1.out.res 1
    have l2 := block_loose HB1.out.res 2
    have l3 := block_loose HB1.out.res 3
    have l4 := block_loose HB1.out.res 4
    have l5 := block_loose HB1.out.res 5
    have l6 := block_loose HB1.out.res 6
    go_wp2
    have HK : Hid ((((((((w1.setCell ⟨w.heap.size, 0, none⟩ (.int .i64 0)).setCell ⟨w.heap.size, 1, none⟩ (.int .i64 0)).setCell ⟨w.heap.size, 2, none⟩ (.string ⟨#[]⟩)).setCell ⟨w.heap.size, 3, none⟩ (.int .i64 0)).setCell ⟨w.heap.size, 4, none⟩ (.int .i64 0)).setCell ⟨w.heap.size, 5, none⟩ (.int .i64 0)).setCell ⟨w.heap.size, 6, none⟩ (.slice none 0 0)).heap[w.heap.size]? = some (.cells #[.int .i64 0, .int .i64 0, .string ⟨#[]⟩, .int .i64 0, .int .i64 0, .int .i64 0, .slice none 0 0] 53 (0, 0))) := Lib.hid (set_seven HB1.out.res)
    have HB3 : Hid (Below w.heap.size w (((((((w1.setCell ⟨w.heap.size, 0, none⟩ (.int .i64 0)).setCell ⟨w.heap.size, 1, none⟩ (.int .i64 0)).setCell ⟨w.heap.size, 2, none⟩ (.string ⟨#[]⟩)).setCell ⟨w.heap.size, 3, none⟩ (.int .i64 0)).setCell ⟨w.heap.size, 4, none⟩ (.int .i64 0)).setCell ⟨w.heap.size, 5, none⟩ (.int .i64 0)).setCell ⟨w.heap.size, 6, none⟩ (.slice none 0 0))) := Lib.hid (below_seven HB1.out.below (Nat.le_refl _) _ _ _ _ _ _ _)
    generalize (((((((w1.setCell ⟨w.heap.size, 0, none⟩ (.int .i64 0)).setCell ⟨w.heap.size, 1, none⟩ (.int .i64 0)).setCell ⟨w.heap.size, 2, none⟩ (.string ⟨#[]⟩)).setCell ⟨w.heap.size, 3, none⟩ (.int .i64 0)).setCell ⟨w.heap.size, 4, none⟩ (.int .i64 0)).setCell ⟨w.heap.size, 5, none⟩ (.int .i64 0)).setCell ⟨w.heap.size, 6, none⟩ (.slice none 0 0)) = w9 at *
    have k0 := block_cell HK.out 0
    have k1 := block_cell HK.out 1
    have k2 := block_cell HK.out 2
    have k3 := block_cell HK.out 3
    have k4 := block_cell HK.out 4
    have k5 := block_cell HK.out 5
    have k6 := block_cell HK.out 6
    simp only [List.getElem?_toArray, List.getElem?_cons_zero, List.getElem?_cons_succ] at k0 k1 k2 k3 k4 k5 k6
    exact bodyPost_ret (v := .tuple #[.agg #[.int .i64 0, .int .i64 0, .string ⟨#[]⟩, .int .i64 0, .int .i64 0, .int .i64 0, .slice none 0 0], .string ⟨#[]⟩, .int .i64 c]) (by simp [results, Tryz.results45, go_sem, k0, k1, k2, k3, k4, k5, k6]) rfl ⟨_, rfl, readsE_none _, HB3.out⟩
  have hl1 := takeL_len ht
  have T1 := Lib.hid ht
  rw [ht, show tkRes (Sum.inl (m, r1)) = _ from tkRes_ok m r1]
  clear ht
  go_wp2_with fail
  refine (refTake_l r1 _ (by omega)).mono ?_
  rintro x w2 ⟨rfl, hq⟩
  have HB2 := Lib.hid (HB1.out.call (below_ofq hq))
  clear HB1 hq
  rcases K.cases (N.takeL r1) with ⟨k, ht⟩ | ⟨m2, r2, ht⟩
  · have hpos := K.num_errs _ _ ht
    have hci : ((k : Int) == 0) = false := beq_eq_false_iff_ne.2 (by omega)
    have hcn : ¬ k = 0 := by omega
    have hev := H.out
    rw [enRes_bad (show R.takeEn s = Sum.inr k from (K.bind_ok _ T1.out).trans (K.bind_bad _ ht))] at hev
    cases hev
    rw [ht, show tkRes (Sum.inr c) = _ from tkRes_bad c]
    clear ht H
    have a0 := block_cell HB2.out.res 0
    have a1 := block_cell HB2.out.res 1
    have a2 := block_cell HB2.out.res 2
    have a3 := block_cell HB2.out.res 3
    have a4 := block_cell HB2.out.res 4
    have a5 := block_cell HB2.out.res 5
    have a6 := block_cell HB2.out.res 6
    simp at a0 a1 a2 a3 a4 a5 a6
    have l0 := block_loose HB2.out.res 0
    have l1 := block_loose HB2.out.res 1
    have l2 := block_loose HB2.out.res 2
    have l3 := block_loose HB2.out.res 3
    have l4 := block_loose HB2.out.res 4
    have l5 := block_loose HB2.out.res 5
    have l6 := block_loose HB2.out.res 6
    go_wp2
    have HK : Hid ((((((((w2.setCell ⟨w.heap.size, 0, none⟩ (.int .i64 0)).setCell ⟨w.heap.size, 1, none⟩ (.int .i64 0)).setCell ⟨w.heap.size, 2, none⟩ (.string ⟨#[]⟩)).setCell ⟨w.heap.size, 3, none⟩ (.int .i64 0)).setCell ⟨w.heap.size, 4, none⟩ (.int .i64 0)).setCell ⟨w.heap.size, 5, none⟩ (.int .i64 0)).setCell ⟨w.heap.size, 6, none⟩ (.slice none 0 0)).heap[w.heap.size]? = some (.cells #[.int .i64 0, .int .i64 0, .string ⟨#[]⟩, .int .i64 0, .int .i64 0, .int .i64 0, .slice none 0 0] 53 (0, 0))) := Lib.hid (set_seven HB2.out.res)
    have HB3 : Hid (Below w.heap.size w (((((((w2.setCell ⟨w.heap.size, 0, none⟩ (.int .i64 0)).setCell ⟨w.heap.size, 1, none⟩ (.int .i64 0)).setCell ⟨w.heap.size, 2, none⟩ (.string ⟨#[]⟩)).setCell ⟨w.heap.size, 3, none⟩ (.int .i64 0)).setCell ⟨w.heap.size, 4, none⟩ (.int .i64 0)).setCell ⟨w.heap.size, 5, none⟩ (.int .i64 0)).setCell ⟨w.heap.size, 6, none⟩ (.slice none 0 0))) := Lib.hid (below_seven HB2.out.below (Nat.le_refl _) _ _ _ _ _ _ _)
    generalize (((((((w2.setCell ⟨w.heap.size, 0, none⟩ (.int .i64 0)).setCell ⟨w.heap.size, 1, none⟩ (.int .i64 0)).setCell ⟨w.heap.size, 2, none⟩ (.string ⟨#[]⟩)).setCell ⟨w.heap.size, 3, none⟩ (.int .i64 0)).setCell ⟨w.heap.size, 4, none⟩ (.int .i64 0)).setCell ⟨w.heap.size, 5, none⟩ (.int .i64 0)).setCell ⟨w.heap.size, 6, none⟩ (.slice none 0 0)) = w9 at *
    have k0 := block_cell HK.out 0
    have k1 := block_cell HK.out 1
    have k2 := block_cell HK.out 2
    have k3 := block_cell HK.out 3
    have k4 := block_cell HK.out 4
    have k5 := block_cell HK.out 5
    have k6 := block_cell HK.out 6
    simp only [List.getElem?_toArray, List.getElem?_cons_zero, List.getElem?_cons_succ] at k0 k1 k2 k3 k4 k5 k6
    exact bodyPost_ret (v := .tuple #[.agg #[.int .i64 0, .int .i64 0, .string ⟨#[]⟩, .int .i64 0, .int .i64 0, .int .i64 0, .slice none 0 0], .string ⟨#[]⟩, .int .i64 c]) (by simp [results, Tryz.results45, go_sem, k0, k1, k2, k3, k4, k5, k6]) rfl ⟨_, rfl, readsE_none _, HB3.out⟩
  have hl2 := takeL_len ht
  have T2 := Lib.hid ht
  rw [ht, show tkRes (Sum.inl (m2, r2)) = _ from tkRes_ok m2 r2]
  clear ht
  go_wp2_with fail
  rcases K.cases (E.takeBat r2) with ⟨k, ht⟩ | ⟨b, r3, ht⟩
  · have hpos := E.bat_errs r2 k ht
    have hci : ((k : Int) == 0) = false := beq_eq_false_iff_ne.2 (by omega)
    have hcn : ¬ k = 0 := by omega
    have hev := H.out
    rw [enRes_bad (show R.takeEn s = Sum.inr k from (K.bind_ok _ T1.out).trans ((K.bind_ok _ T2.out).trans (K.bind_bad _ ht)))] at hev
    cases hev
    have HQ : Hid (batRes (E.takeBat r2) = (⟨[], 0, 0, 0, []⟩, [], c)) := Lib.hid (by rw [ht]; rfl)
    clear ht H
    refine (refTakeBat_at r2 ⟨[], 0, 0, 0, []⟩ [] c w2 (by omega) HQ).mono ?_
    rintro x w3 ⟨v, rfl, hrd, hb3⟩
    obtain ⟨va, vc, rfl, -⟩ := hrd
    have HBX := Lib.hid ((HB2.out.call hb3).call ((Below.refl _ w3).alloc (Nat.le_refl _) (.cells #[.string (B []), .int .i64 0, .int .i64 0, .int .i64 0, .slice va 0 vc] 51)))
    clear hb3
    have a0 := block_cell HBX.out.res 0
    have a1 := block_cell HBX.out.res 1
    have a2 := block_cell HBX.out.res 2
    have a3 := block_cell HBX.out.res 3
    have a4 := block_cell HBX.out.res 4
    have a5 := block_cell HBX.out.res 5
    have a6 := block_cell HBX.out.res 6
    simp at a0 a1 a2 a3 a4 a5 a6
    have l0 := block_loose HBX.out.res 0
    have l1 := block_loose HBX.out.res 1
    have l2 := block_loose HBX.out.res 2
    have l3 := block_loose HBX.out.res 3
    have l4 := block_loose HBX.out.res 4
    have l5 := block_loose HBX.out.res 5
    have l6 := block_loose HBX.out.res 6
    go_wp2
    have HK : Hid (((((((((w3.alloc (.cells #[.string (B []), .int .i64 0, .int .i64 0, .int .i64 0, .slice va 0 vc] 51)).setCell ⟨w.heap.size, 0, none⟩ (.int .i64 0)).setCell ⟨w.heap.size, 1, none⟩ (.int .i64 0)).setCell ⟨w.heap.size, 2, none⟩ (.string ⟨#[]⟩)).setCell ⟨w.heap.size, 3, none⟩ (.int .i64 0)).setCell ⟨w.heap.size, 4, none⟩ (.int .i64 0)).setCell ⟨w.heap.size, 5, none⟩ (.int .i64 0)).setCell ⟨w.heap.size, 6, none⟩ (.slice none 0 0)).heap[w.heap.size]? = some (.cells #[.int .i64 0, .int .i64 0, .string ⟨#[]⟩, .int .i64 0, .int .i64 0, .int .i64 0, .slice none 0 0] 53 (0, 0))) := Lib.hid (set_seven HBX.out.res)
    have HB3 : Hid (Below w.heap.size w ((((((((w3.alloc (.cells #[.string (B []), .int .i64 0, .int .i64 0, .int .i64 0, .slice va 0 vc] 51)).setCell ⟨w.heap.size, 0, none⟩ (.int .i64 0)).setCell ⟨w.heap.size, 1, none⟩ (.int .i64 0)).setCell ⟨w.heap.size, 2, none⟩ (.string ⟨#[]⟩)).setCell ⟨w.heap.size, 3, none⟩ (.int .i64 0)).setCell ⟨w.heap.size, 4, none⟩ (.int .i64 0)).setCell ⟨w.heap.size, 5, none⟩ (.int .i64 0)).setCell ⟨w.heap.size, 6, none⟩ (.slice none 0 0))) := Lib.hid (below_seven HBX.out.below (Nat.le_refl _) _ _ _ _ _ _ _)
    generalize ((((((((w3.alloc (.cells #[.string (B []), .int .i64 0, .int .i64 0, .int .i64 0, .slice va 0 vc] 51)).setCell ⟨w.heap.size, 0, none⟩ (.int .i64 0)).setCell ⟨w.heap.size, 1, none⟩ (.int .i64 0)).setCell ⟨w.heap.size, 2, none⟩ (.string ⟨#[]⟩)).setCell ⟨w.heap.size, 3, none⟩ (.int .i64 0)).setCell ⟨w.heap.size, 4, none⟩ (.int .i64 0)).setCell ⟨w.heap.size, 5, none⟩ (.int .i64 0)).setCell ⟨w.heap.size, 6, none⟩ (.slice none 0 0)) = w9 at *
    have k0 := block_cell HK.out 0
    have k1 := block_cell HK.out 1
    have k2 := block_cell HK.out 2
    have k3 := block_cell HK.out 3
    have k4 := block_cell HK.out 4
    have k5 := block_cell HK.out 5
    have k6 := block_cell HK.out 6
    simp only [List.getElem?_toArray, List.getElem?_cons_zero, List.getElem?_cons_succ] at k0 k1 k2 k3 k4 k5 k6
    exact bodyPost_ret (v := .tuple #[.agg #[.int .i64 0, .int .i64 0, .string ⟨#[]⟩, .int .i64 0, .int .i64 0, .int .i64 0, .slice none 0 0], .string ⟨#[]⟩, .int .i64 c]) (by simp [results, Tryz.results45, go_sem, k0, k1, k2, k3, k4, k5, k6]) rfl ⟨_, rfl, readsE_none _, HB3.out⟩
  have hsm := bat_tiny ht
  have hev := H.out
  rw [show enRes (R.takeEn s) = _ by rw [takeEn_form T1.out T2.out ht]] at hev
  have HQ : Hid (batRes (E.takeBat r2) = (b, r3, 0)) := Lib.hid (by rw [ht]; rfl)
  clear ht H
  refine (refTakeBat_at r2 b r3 0 w2 (by omega) HQ).mono ?_
  rintro x w3 ⟨v, rfl, hrd, hb3⟩
  obtain ⟨st, ex, se, sq, evs⟩ := b
  have HRD := Lib.hid hrd
  obtain ⟨va, vc, rfl, -⟩ := hrd
  dsimp only at HRD
  obtain ⟨rt, HRT⟩ : ∃ rt, Hid (R.right ⟨m, m2, ⟨st, ex, se, sq, evs⟩⟩ = rt) := ⟨_, Lib.hid rfl⟩
  rw [HRT.out] at hev
  have hbb : Below w3.heap.size w3 ((w3.alloc (.cells #[.string (B st), .int .i64 ex, .int .i64 se, .int .i64 sq, .slice va evs.length vc] 51)).alloc (.cells #[.int .i64 m, .int .i64 m2, .string (B st), .int .i64 ex, .int .i64 se, .int .i64 sq, .slice va evs.length vc] 53)) := ((Below.refl _ w3).alloc (Nat.le_refl _) _).alloc (by simp) _
  have HBX := Lib.hid ((HB2.out.call hb3).call hbb)
  have HCX : Hid (((w3.alloc (.cells #[.string (B st), .int .i64 ex, .int .i64 se, .int .i64 sq, .slice va evs.length vc] 51)).alloc (.cells #[.int .i64 m, .int .i64 m2, .string (B st), .int .i64 ex, .int .i64 se, .int .i64 sq, .slice va evs.length vc] 53)).heap[(w3.alloc (.cells #[.string (B st), .int .i64 ex, .int .i64 se, .int .i64 sq, .slice va evs.length vc] 51)).heap.size]? = some (.cells #[.int .i64 m, .int .i64 m2, .string (B st), .int .i64 ex, .int .i64 se, .int .i64 sq, .slice va evs.length vc] 53)) := Lib.hid (World.alloc_heap_new _ _)
  have HRX := Lib.hid (readsE_belowB HRD.out hbb)
  clear hb3 hbb
  go_wp2_with fail
  generalize (w3.alloc (.cells #[.string (B st), .int .i64 ex, .int .i64 se, .int .i64 sq, .slice va evs.length vc] 51)).alloc (.cells #[.int .i64 m, .int .i64 m2, .string (B st), .int .i64 ex, .int .i64 se, .int .i64 sq, .slice va evs.length vc] 53) = w5 at *
  refine (refRight6_at ⟨m, m2, ⟨st, ex, se, sq, evs⟩⟩ (.slice va evs.length vc) rt w5 HRX.out hsm HRT).mono ?_
  rintro x w6 ⟨rfl, hb6⟩
  have HB6 := Lib.hid (HBX.out.call hb6)
  have HR6 := Lib.hid (readsE_belowB HRX.out hb6)
  have HC6 := Lib.hid (block_below HCX.out hb6)
  clear hb6
  cases rt
  · rw [if_neg (by decide)] at hev
    cases hev
    have a0 := block_cell HB6.out.res 0
    have a1 := block_cell HB6.out.res 1
    have a2 := block_cell HB6.out.res 2
    have a3 := block_cell HB6.out.res 3
    have a4 := block_cell HB6.out.res 4
    have a5 := block_cell HB6.out.res 5
    have a6 := block_cell HB6.out.res 6
    simp at a0 a1 a2 a3 a4 a5 a6
    have l0 := block_loose HB6.out.res 0
    have l1 := block_loose HB6.out.res 1
    have l2 := block_loose HB6.out.res 2
    have l3 := block_loose HB6.out.res 3
    have l4 := block_loose HB6.out.res 4
    have l5 := block_loose HB6.out.res 5
    have l6 := block_loose HB6.out.res 6
    go_wp2
    have HK : Hid ((((((((w6.setCell ⟨w.heap.size, 0, none⟩ (.int .i64 0)).setCell ⟨w.heap.size, 1, none⟩ (.int .i64 0)).setCell ⟨w.heap.size, 2, none⟩ (.string ⟨#[]⟩)).setCell ⟨w.heap.size, 3, none⟩ (.int .i64 0)).setCell ⟨w.heap.size, 4, none⟩ (.int .i64 0)).setCell ⟨w.heap.size, 5, none⟩ (.int .i64 0)).setCell ⟨w.heap.size, 6, none⟩ (.slice none 0 0)).heap[w.heap.size]? = some (.cells #[.int .i64 0, .int .i64 0, .string ⟨#[]⟩, .int .i64 0, .int .i64 0, .int .i64 0, .slice none 0 0] 53 (0, 0))) := Lib.hid (set_seven HB6.out.res)
    have HB3 : Hid (Below w.heap.size w (((((((w6.setCell ⟨w.heap.size, 0, none⟩ (.int .i64 0)).setCell ⟨w.heap.size, 1, none⟩ (.int .i64 0)).setCell ⟨w.heap.size, 2, none⟩ (.string ⟨#[]⟩)).setCell ⟨w.heap.size, 3, none⟩ (.int .i64 0)).setCell ⟨w.heap.size, 4, none⟩ (.int .i64 0)).setCell ⟨w.heap.size, 5, none⟩ (.int .i64 0)).setCell ⟨w.heap.size, 6, none⟩ (.slice none 0 0))) := Lib.hid (below_seven HB6.out.below (Nat.le_refl _) _ _ _ _ _ _ _)
    generalize (((((((w6.setCell ⟨w.heap.size, 0, none⟩ (.int .i64 0)).setCell ⟨w.heap.size, 1, none⟩ (.int .i64 0)).setCell ⟨w.heap.size, 2, none⟩ (.string ⟨#[]⟩)).setCell ⟨w.heap.size, 3, none⟩ (.int .i64 0)).setCell ⟨w.heap.size, 4, none⟩ (.int .i64 0)).setCell ⟨w.heap.size, 5, none⟩ (.int .i64 0)).setCell ⟨w.heap.size, 6, none⟩ (.slice none 0 0)) = w9 at *
    have k0 := block_cell HK.out 0
    have k1 := block_cell HK.out 1
    have k2 := block_cell HK.out 2
    have k3 := block_cell HK.out 3
    have k4 := block_cell HK.out 4
    have k5 := block_cell HK.out 5
    have k6 := block_cell HK.out 6
    simp only [List.getElem?_toArray, List.getElem?_cons_zero, List.getElem?_cons_succ] at k0 k1 k2 k3 k4 k5 k6
    exact bodyPost_ret (v := .tuple #[.agg #[.int .i64 0, .int .i64 0, .string ⟨#[]⟩, .int .i64 0, .int .i64 0, .int .i64 0, .slice none 0 0], .string ⟨#[]⟩, .int .i64 2]) (by simp [results, Tryz.results45, go_sem, k0, k1, k2, k3, k4, k5, k6]) rfl ⟨_, rfl, readsE_none _, HB3.out⟩
  · rw [if_pos rfl] at hev
    cases hev
    have q0 := block_cell HC6.out 0
    have q1 := block_cell HC6.out 1
    have q2 := block_cell HC6.out 2
    have q3 := block_cell HC6.out 3
    have q4 := block_cell HC6.out 4
    have q5 := block_cell HC6.out 5
    have q6 := block_cell HC6.out 6
    simp at q0 q1 q2 q3 q4 q5 q6
    have a0 := block_cell HB6.out.res 0
    have a1 := block_cell HB6.out.res 1
    have a2 := block_cell HB6.out.res 2
    have a3 := block_cell HB6.out.res 3
    have a4 := block_cell HB6.out.res 4
    have a5 := block_cell HB6.out.res 5
    have a6 := block_cell HB6.out.res 6
    simp at a0 a1 a2 a3 a4 a5 a6
    have l0 := block_loose HB6.out.res 0
    have l1 := block_loose HB6.out.res 1
    have l2 := block_loose HB6.out.res 2
    have l3 := block_loose HB6.out.res 3
    have l4 := block_loose HB6.out.res 4
    have l5 := block_loose HB6.out.res 5
    have l6 := block_loose HB6.out.res 6
    go_wp2
    have HK : Hid ((((((((w6.setCell ⟨w.heap.size, 0, none⟩ (.int .i64 m)).setCell ⟨w.heap.size, 1, none⟩ (.int .i64 m2)).setCell ⟨w.heap.size, 2, none⟩ (.string (B st))).setCell ⟨w.heap.size, 3, none⟩ (.int .i64 ex)).setCell ⟨w.heap.size, 4, none⟩ (.int .i64 se)).setCell ⟨w.heap.size, 5, none⟩ (.int .i64 sq)).setCell ⟨w.heap.size, 6, none⟩ (.slice va evs.length vc)).heap[w.heap.size]? = some (.cells #[.int .i64 m, .int .i64 m2, .string (B st), .int .i64 ex, .int .i64 se, .int .i64 sq, .slice va evs.length vc] 53 (0, 0))) := Lib.hid (set_seven HB6.out.res)
    have HB3 : Hid (Below w.heap.size w (((((((w6.setCell ⟨w.heap.size, 0, none⟩ (.int .i64 m)).setCell ⟨w.heap.size, 1, none⟩ (.int .i64 m2)).setCell ⟨w.heap.size, 2, none⟩ (.string (B st))).setCell ⟨w.heap.size, 3, none⟩ (.int .i64 ex)).setCell ⟨w.heap.size, 4, none⟩ (.int .i64 se)).setCell ⟨w.heap.size, 5, none⟩ (.int .i64 sq)).setCell ⟨w.heap.size, 6, none⟩ (.slice va evs.length vc))) := Lib.hid (below_seven HB6.out.below (Nat.le_refl _) _ _ _ _ _ _ _)
    have HR7 : Hid (ReadsE (((((((w6.setCell ⟨w.heap.size, 0, none⟩ (.int .i64 m)).setCell ⟨w.heap.size, 1, none⟩ (.int .i64 m2)).setCell ⟨w.heap.size, 2, none⟩ (.string (B st))).setCell ⟨w.heap.size, 3, none⟩ (.int .i64 ex)).setCell ⟨w.heap.size, 4, none⟩ (.int .i64 se)).setCell ⟨w.heap.size, 5, none⟩ (.int .i64 sq)).setCell ⟨w.heap.size, 6, none⟩ (.slice va evs.length vc)) (.slice va evs.length vc) evs) := Lib.hid (readsE_zero HR6.out HB6.out.res fun k hk => keep_seven hk _ _ _ _ _ _ _)
    generalize (((((((w6.setCell ⟨w.heap.size, 0, none⟩ (.int .i64 m)).setCell ⟨w.heap.size, 1, none⟩ (.int .i64 m2)).setCell ⟨w.heap.size, 2, none⟩ (.string (B st))).setCell ⟨w.heap.size, 3, none⟩ (.int .i64 ex)).setCell ⟨w.heap.size, 4, none⟩ (.int .i64 se)).setCell ⟨w.heap.size, 5, none⟩ (.int .i64 sq)).setCell ⟨w.heap.size, 6, none⟩ (.slice va evs.length vc)) = w9 at *
    have k0 := block_cell HK.out 0
    have k1 := block_cell HK.out 1
    have k2 := block_cell HK.out 2
    have k3 := block_cell HK.out 3
    have k4 := block_cell HK.out 4
    have k5 := block_cell HK.out 5
    have k6 := block_cell HK.out 6
    simp only [List.getElem?_toArray, List.getElem?_cons_zero, List.getElem?_cons_succ] at k0 k1 k2 k3 k4 k5 k6
    exact bodyPost_ret (v := .tuple #[.agg #[.int .i64 m, .int .i64 m2, .string (B st), .int .i64 ex, .int .i64 se, .int .i64 sq, .slice va evs.length vc], .string (B r), .int .i64 0]) (by simp [results, Tryz.results45, go_sem, k0, k1, k2, k3, k4, k5, k6]) rfl ⟨_, rfl, HR7.out, HB3.out⟩
end Go.Proofs.YtmfhipjceeijmaaGreatDoor
