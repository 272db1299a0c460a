/-
  Own texts, joined: SegCode4
-/
import Derived.Test.YtmfhipjceeijmaaGreatDoorBun36
import Derived.Test.YtmfhipjceeijmaaGreatDoorBun30

/-
  The segment package: entryOf.
-/
namespace Go.Proofs.YtmfhipjceeijmaaGreatDoor.G
open Go.RowKit
open D (dP)
attribute [local go_sem] ext_Bd ext_Bl ext_Bt toList_B add_B size_B get_Bt

theorem en_right_small {e : R.En} (h : R.right e = true) : E.Small e.b := by
  obtain ⟨_, _, _, _, hf⟩ := R.right_iff.1 h
  obtain ⟨⟨hst, _⟩, _, hall⟩ := E.fits_inv hf
  have := (nameL_len hst).2
  refine E.Small.of (by omega) fun x hx => ?_
  have := E.right_bd (List.all_eq_true.1 hall x hx)
  omega
/-- record.Take at any bytes. -/
theorem Take6_any (s : Tx) (w : World) (hl : s.length ≤ 100000) :
    Calls Tryz.prog 104 #[.string (B s)] w fun x w' => ∃ e v r c, x = .returned (.tuple #[enV e v, .string (B r), .int .i64 (c : Nat)]) ∧ (c = 0 ∧ r = [] ↔ ∃ e2, R.takeEn s = Sum.inl (e2, [])) ∧ (c = 0 → R.takeEn s = Sum.inl (e, r)) ∧ w'.ownsRow w.heap.size 92 2 v e.b.events.length (evCells e.b.events) ∧ Below w.heap.size w w' := by
  rcases K.cases (R.takeEn s) with ⟨c, ht⟩ | ⟨e, r, ht⟩
  · have hc := R.en_errs s c ht
    refine (Take6_bad s c w (by omega) (Lib.hid ht)).mono ?_
    rintro x w' ⟨rfl, hb⟩
    exact ⟨⟨0, 0, ⟨[], 0, 0, 0, []⟩⟩, .slice none 0 0, [], c, rfl, ⟨fun h => by omega, fun ⟨e2, h⟩ => by rw [ht] at h; cases h⟩, fun h => by omega, World.ownsRow_nil _ _ _ _, hb⟩
  · obtain ⟨h1, h2⟩ := R.take_inv ht
    refine (Take6_ok e s r w h2 (en_right_small h2) (Lib.hid h1) (by omega)).mono ?_
    rintro x w' ⟨v, rfl, ho, hb⟩
    exact ⟨e, v, r, 0, rfl, ⟨fun h => ⟨e, by rw [ht, h.2]⟩, fun ⟨e2, h⟩ => by rw [ht] at h; cases h; exact ⟨rfl, rfl⟩⟩, fun _ => ht, ho, hb⟩
theorem CutE (p : Tx) (w : World) :
    Calls Tryz.prog 57 #[.string (B p), .string ⟨#[101]⟩] w fun x w' => (∃ t b, x = .returned (.tuple #[.string (B t), .bool b]) ∧ t.length ≤ p.length ∧ ((b = true ∧ p = 101 :: t) ∨ (b = false ∧ p.head? ≠ some 101))) ∧ w' = w := by
  by_cases h0 : p.head? = some 101
  · obtain ⟨t, rfl⟩ : ∃ t, p = 101 :: t := by
      cases p with
      | nil => cases h0
      | cons a t => cases h0; exact ⟨t, rfl⟩
    exact (Cut1_yes 101 t w).mono fun x w' ⟨a, b⟩ => ⟨⟨t, true, a, by simp, .inl ⟨rfl, rfl⟩⟩, b⟩
  · exact (Cut1_no 101 p w h0).mono fun x w' ⟨a, b⟩ => ⟨⟨p, false, a, Nat.le_refl _, .inr ⟨rfl, h0⟩⟩, b⟩

set_option maxHeartbeats 4000000 in
set_option maxRecDepth 100000 in
theorem entryOf_l (p : Tx) (w : World) (hl : p.length ≤ 100000) :
    Calls Tryz.prog 75 #[.string (B p)] w fun x w' => ∃ e v b, x = .returned (.tuple #[enV e v, .bool b]) ∧ ((b = true ∧ entOf p = some e) ∨ (b = false ∧ entOf p = none)) ∧ w'.ownsRow w.heap.size 92 2 v e.b.events.length (evCells e.b.events) ∧ Below w.heap.size w w' := by
  have HL := Lib.hid hl
  clear hl
  have HA0 : Hid ((w.alloc (.cells #[.int .i64 0, .int .i64 0, .string ⟨#[]⟩, .int .i64 0, .int .i64 0, .int .i64 0, .slice none 0 0] 53)).heap[w.heap.size]? = some zeroEn) := Lib.hid (heap_alloc_new w _)
  have HB0 : Hid (Below w.heap.size w (w.alloc (.cells #[.int .i64 0, .int .i64 0, .string ⟨#[]⟩, .int .i64 0, .int .i64 0, .int .i64 0, .slice none 0 0] 53))) := Lib.hid ((Below.refl _ w).alloc (Nat.le_refl _) _)
  go_enter Tryz.func75, Tryz.ntmps75
  go_wp2_with fail
  generalize w.alloc (.cells #[.int .i64 0, .int .i64 0, .string ⟨#[]⟩, .int .i64 0, .int .i64 0, .int .i64 0, .slice none 0 0] 53) = W at HA0 HB0 ⊢
  refine (CutE p W).mono ?_
  rintro x w1 ⟨⟨t, b, rfl, htl, hb⟩, rfl⟩
  have HBT := Lib.hid hb
  clear hb
  have htl2 : t.length ≤ 100000 := Nat.le_trans htl HL.out
  clear htl
  go_wp2_with fail
  refine (Take6_any t w1 htl2).mono ?_
  rintro x w2 ⟨e, v, r, c, rfl, hiff, htk, how, hb2⟩
  have HOW := Lib.hid (own_base5 (b := w.heap.size) how HB0.out.size)
  have hre := readsE_own how
  have hb2' : Below w1.heap.size w1 w2 := hb2
  have hA2 := block_below HA0.out hb2'
  have hB2 := HB0.out.trans (hb2'.mono HB0.out.size)
  obtain ⟨pos, ep, ⟨st, ex, se, sq, evs⟩⟩ := e
  dsimp only at hre HOW ⊢
  obtain ⟨ua, uc, rfl, _⟩ := hre
  have HIFF := Lib.hid hiff
  have HTK := Lib.hid htk
  clear hiff htk how hb2 hb2'
  obtain ⟨WW, HWW⟩ : ∃ WW, Hid (w2.alloc (.cells #[.int .i64 pos, .int .i64 ep, .string (B st), .int .i64 ex, .int .i64 se, .int .i64 sq, .slice ua evs.length uc] 53) = WW) := ⟨_, Lib.hid rfl⟩
  have hal : Below w2.heap.size w2 WW := by rw [← HWW.out]; exact (Below.refl _ w2).alloc (Nat.le_refl _) _
  have hn : WW.heap[w2.heap.size]? = some (.cells #[.int .i64 pos, .int .i64 ep, .string (B st), .int .i64 ex, .int .i64 se, .int .i64 sq, .slice ua evs.length uc] 53 (0, 0)) := by rw [← HWW.out]; exact heap_alloc_new w2 _
  have HA := Lib.hid (block_below hA2 hal)
  have HB := Lib.hid (hB2.trans (hal.mono hB2.size))
  have HR3 := Lib.hid (own_below5 HOW.out hal)
  clear hA2 hB2 hal HA0 HB0 HOW
  go_upto_region 3 with (fail)
  rw [HWW.out]
  clear HWW
  have a0 := block_cell HA.out 0
  have a1 := block_cell HA.out 1
  have a2 := block_cell HA.out 2
  have a3 := block_cell HA.out 3
  have a4 := block_cell HA.out 4
  have a5 := block_cell HA.out 5
  have a6 := block_cell HA.out 6
  have n0 := block_cell hn 0
  have n1 := block_cell hn 1
  have n2 := block_cell hn 2
  have n3 := block_cell hn 3
  have n4 := block_cell hn 4
  have n5 := block_cell hn 5
  have n6 := block_cell hn 6
  simp only [List.getElem?_toArray, List.getElem?_cons_zero, List.getElem?_cons_succ] at a0 a1 a2 a3 a4 a5 a6 n0 n1 n2 n3 n4 n5 n6
  have l0 := block_loose HA.out 0
  have l1 := block_loose HA.out 1
  have l2 := block_loose HA.out 2
  have l3 := block_loose HA.out 3
  have l4 := block_loose HA.out 4
  have l5 := block_loose HA.out 5
  have l6 := block_loose HA.out 6
  clear hn
  have HK := Lib.hid (set_seven (a0 := .int .i64 pos) (a1 := .int .i64 ep) (a2 := .string (B st)) (a3 := .int .i64 ex) (a4 := .int .i64 se) (a5 := .int .i64 sq) (a6 := .slice ua evs.length uc) HA.out)
  have HB9 := Lib.hid (below_seven HB.out (Nat.le_refl _) (.int .i64 pos) (.int .i64 ep) (.string (B st)) (.int .i64 ex) (.int .i64 se) (.int .i64 sq) (.slice ua evs.length uc))
  have HR9 := Lib.hid (own_zero HR3.out HA.out (fun k hk => keep_seven hk (.int .i64 pos) (.int .i64 ep) (.string (B st)) (.int .i64 ex) (.int .i64 se) (.int .i64 sq) (.slice ua evs.length uc)))
  have hmark : b = true → p = 101 :: t := fun h => by
    rcases HBT.out with h2 | h2
    · exact h2.2
    · rw [h] at h2; cases h2.1
  have hnot : b = false → entOf p = none := fun h => by
    rcases HBT.out with h2 | h2
    · rw [h] at h2; cases h2.1
    · unfold entOf; rw [if_neg h2.2]
  have hyes : b = true → c = 0 → r = [] → entOf p = some ⟨pos, ep, ⟨st, ex, se, sq, evs⟩⟩ := fun h1 h2 h3 => by
    rw [hmark h1]
    have := HTK.out h2
    rw [h3] at this
    unfold entOf
    simp [this]
  have hbad : b = true → ¬ (c = 0 ∧ r = []) → entOf p = none := fun h1 h2 => by
    rw [hmark h1]
    cases hq : entOf (101 :: t) with
    | none => rfl
    | some e2 =>
      obtain ⟨he, hr⟩ := entOf_inv hq
      have e3 : t = R.bytes e2 := by unfold pay at he; exact (List.cons.inj he).2
      exact absurd (HIFF.out.2 ⟨e2, by
        have := R.take_put hr []
        rw [List.append_nil] at this
        rw [e3]; exact this⟩) h2
  have HY := Lib.hid hyes
  have HN := Lib.hid hnot
  have HBD := Lib.hid hbad
  clear hyes hnot hbad hmark HBT HIFF HTK
  cases b with
  | false =>
    have HE := Lib.hid (HN.out rfl)
    clear HY HN HBD
    go_wp2
    generalize ((((((WW.setCell ⟨w.heap.size, 0, none⟩ (.int .i64 pos)).setCell ⟨w.heap.size, 1, none⟩ (.int .i64 ep)).setCell ⟨w.heap.size, 2, none⟩ (.string (B st))).setCell ⟨w.heap.size, 3, none⟩ (.int .i64 ex)).setCell ⟨w.heap.size, 4, none⟩ (.int .i64 se)).setCell ⟨w.heap.size, 5, none⟩ (.int .i64 sq)).setCell ⟨w.heap.size, 6, none⟩ (.slice ua evs.length uc) = w9 at HK HB9 HR9 ⊢
    have k0 := block_cell HK.out 0
    have k1 := block_cell HK.out 1
    have k2 := block_cell HK.out 2
    have k3 := block_cell HK.out 3
    have k4 := block_cell HK.out 4
    have k5 := block_cell HK.out 5
    have k6 := block_cell HK.out 6
    simp only [List.getElem?_toArray, List.getElem?_cons_zero, List.getElem?_cons_succ] at k0 k1 k2 k3 k4 k5 k6
    exact bodyPost_ret (v := .tuple #[enV ⟨pos, ep, ⟨st, ex, se, sq, evs⟩⟩ (.slice ua evs.length uc), .bool false]) (by simp [results, Tryz.results75, go_sem, k0, k1, k2, k3, k4, k5, k6]) rfl ⟨_, _, _, rfl, .inr ⟨rfl, HE.out⟩, HR9.out, HB9.out⟩
  | true =>
    by_cases hc : c = 0
    · subst hc
      by_cases hr : r = []
      · subst hr
        have HE := Lib.hid (HY.out rfl rfl rfl)
        clear HY HN HBD
        go_wp2
        generalize ((((((WW.setCell ⟨w.heap.size, 0, none⟩ (.int .i64 pos)).setCell ⟨w.heap.size, 1, none⟩ (.int .i64 ep)).setCell ⟨w.heap.size, 2, none⟩ (.string (B st))).setCell ⟨w.heap.size, 3, none⟩ (.int .i64 ex)).setCell ⟨w.heap.size, 4, none⟩ (.int .i64 se)).setCell ⟨w.heap.size, 5, none⟩ (.int .i64 sq)).setCell ⟨w.heap.size, 6, none⟩ (.slice ua evs.length uc) = w9 at HK HB9 HR9 ⊢
        have k0 := block_cell HK.out 0
        have k1 := block_cell HK.out 1
        have k2 := block_cell HK.out 2
        have k3 := block_cell HK.out 3
        have k4 := block_cell HK.out 4
        have k5 := block_cell HK.out 5
        have k6 := block_cell HK.out 6
        simp only [List.getElem?_toArray, List.getElem?_cons_zero, List.getElem?_cons_succ] at k0 k1 k2 k3 k4 k5 k6
        exact bodyPost_ret (v := .tuple #[enV ⟨pos, ep, ⟨st, ex, se, sq, evs⟩⟩ (.slice ua evs.length uc), .bool true]) (by simp [results, Tryz.results75, go_sem, k0, k1, k2, k3, k4, k5, k6]) rfl ⟨_, _, _, rfl, .inl ⟨rfl, HE.out⟩, HR9.out, HB9.out⟩
      · have HE := Lib.hid (HBD.out rfl fun h => hr h.2)
        have he : r.isEmpty = false := by cases r with | nil => exact absurd rfl hr | cons a b => rfl
        have he2 : (r == []) = false := beq_eq_false_iff_ne.2 hr
        clear HY HN HBD hr
        go_wp2
        generalize ((((((WW.setCell ⟨w.heap.size, 0, none⟩ (.int .i64 pos)).setCell ⟨w.heap.size, 1, none⟩ (.int .i64 ep)).setCell ⟨w.heap.size, 2, none⟩ (.string (B st))).setCell ⟨w.heap.size, 3, none⟩ (.int .i64 ex)).setCell ⟨w.heap.size, 4, none⟩ (.int .i64 se)).setCell ⟨w.heap.size, 5, none⟩ (.int .i64 sq)).setCell ⟨w.heap.size, 6, none⟩ (.slice ua evs.length uc) = w9 at HK HB9 HR9 ⊢
        have k0 := block_cell HK.out 0
        have k1 := block_cell HK.out 1
        have k2 := block_cell HK.out 2
        have k3 := block_cell HK.out 3
        have k4 := block_cell HK.out 4
        have k5 := block_cell HK.out 5
        have k6 := block_cell HK.out 6
        simp only [List.getElem?_toArray, List.getElem?_cons_zero, List.getElem?_cons_succ] at k0 k1 k2 k3 k4 k5 k6
        exact bodyPost_ret (v := .tuple #[enV ⟨pos, ep, ⟨st, ex, se, sq, evs⟩⟩ (.slice ua evs.length uc), .bool false]) (by simp [results, Tryz.results75, go_sem, k0, k1, k2, k3, k4, k5, k6]) rfl ⟨_, _, _, rfl, .inr ⟨rfl, HE.out⟩, HR9.out, HB9.out⟩
    · have HE := Lib.hid (HBD.out rfl fun h => hc h.1)
      have hci : ((c : Int) == 0) = false := beq_eq_false_iff_ne.2 (by omega)
      have hcn : ¬ (c : Int) = 0 := by omega
      clear HY HN HBD
      go_wp2
      generalize ((((((WW.setCell ⟨w.heap.size, 0, none⟩ (.int .i64 pos)).setCell ⟨w.heap.size, 1, none⟩ (.int .i64 ep)).setCell ⟨w.heap.size, 2, none⟩ (.string (B st))).setCell ⟨w.heap.size, 3, none⟩ (.int .i64 ex)).setCell ⟨w.heap.size, 4, none⟩ (.int .i64 se)).setCell ⟨w.heap.size, 5, none⟩ (.int .i64 sq)).setCell ⟨w.heap.size, 6, none⟩ (.slice ua evs.length uc) = w9 at HK HB9 HR9 ⊢
      have k0 := block_cell HK.out 0
      have k1 := block_cell HK.out 1
      have k2 := block_cell HK.out 2
      have k3 := block_cell HK.out 3
      have k4 := block_cell HK.out 4
      have k5 := block_cell HK.out 5
      have k6 := block_cell HK.out 6
      simp only [List.getElem?_toArray, List.getElem?_cons_zero, List.getElem?_cons_succ] at k0 k1 k2 k3 k4 k5 k6
      exact bodyPost_ret (v := .tuple #[enV ⟨pos, ep, ⟨st, ex, se, sq, evs⟩⟩ (.slice ua evs.length uc), .bool false]) (by simp [results, Tryz.results75, go_sem, k0, k1, k2, k3, k4, k5, k6]) rfl ⟨_, _, _, rfl, .inr ⟨rfl, HE.out⟩, HR9.out, HB9.out⟩
end Go.Proofs.YtmfhipjceeijmaaGreatDoor.G
