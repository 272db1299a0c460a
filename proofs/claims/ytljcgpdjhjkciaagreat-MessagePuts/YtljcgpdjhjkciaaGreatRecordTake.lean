/-
  Walk of package record: Take, of bytes of a right entry.
-/
import Derived.Test.YtljcgpdjhjkciaaGreatRecordPut
import Derived.Test.YtljcgpdjhjkciaaGreatRecordTakeBat
import Derived.Test.YtljcgpdjhjkciaaGreatNumTake2
namespace Go.Proofs.YtljcgpdjhjkciaaGreat
open Go.RowKit
attribute [local go_sem] ext_Bd ext_Bl ext_Bt toList_B add_B size_B get_Bt

theorem set_seven {w : World} {g : Nat} {x0 x1 x2 x3 x4 x5 x6 a0 a1 a2 a3 a4 a5 a6 : Value} {t : TypeId} (h : w.heap[g]? = some (.cells #[x0, x1, x2, x3, x4, x5, x6] t (0, 0))) :
    (((((((w.setCell ⟨g, 0, none⟩ a0).setCell ⟨g, 1, none⟩ a1).setCell ⟨g, 2, none⟩ a2).setCell ⟨g, 3, none⟩ a3).setCell ⟨g, 4, none⟩ a4).setCell ⟨g, 5, none⟩ a5).setCell ⟨g, 6, none⟩ a6).heap[g]? = some (.cells #[a0, a1, a2, a3, a4, a5, a6] t (0, 0)) := by
  have h0 : (w.setCell ⟨g, 0, none⟩ a0).heap[g]? = some (.cells #[a0, x1, x2, x3, x4, x5, x6] t (0, 0)) := set_block h 0 a0
  have h1 : ((w.setCell ⟨g, 0, none⟩ a0).setCell ⟨g, 1, none⟩ a1).heap[g]? = some (.cells #[a0, a1, x2, x3, x4, x5, x6] t (0, 0)) := set_block h0 1 a1
  generalize (w.setCell ⟨g, 0, none⟩ a0).setCell ⟨g, 1, none⟩ a1 = w1 at h1 ⊢
  have h2 : (w1.setCell ⟨g, 2, none⟩ a2).heap[g]? = some (.cells #[a0, a1, a2, x3, x4, x5, x6] t (0, 0)) := set_block h1 2 a2
  generalize w1.setCell ⟨g, 2, none⟩ a2 = w2 at h2 ⊢
  have h3 : (w2.setCell ⟨g, 3, none⟩ a3).heap[g]? = some (.cells #[a0, a1, a2, a3, x4, x5, x6] t (0, 0)) := set_block h2 3 a3
  generalize w2.setCell ⟨g, 3, none⟩ a3 = w3 at h3 ⊢
  have h4 : (w3.setCell ⟨g, 4, none⟩ a4).heap[g]? = some (.cells #[a0, a1, a2, a3, a4, x5, x6] t (0, 0)) := set_block h3 4 a4
  generalize w3.setCell ⟨g, 4, none⟩ a4 = w4 at h4 ⊢
  have h5 : (w4.setCell ⟨g, 5, none⟩ a5).heap[g]? = some (.cells #[a0, a1, a2, a3, a4, a5, x6] t (0, 0)) := set_block h4 5 a5
  generalize w4.setCell ⟨g, 5, none⟩ a5 = w5 at h5 ⊢
  exact set_block h5 6 a6
theorem below_seven {w w' : World} {g : Nat} (h : Below w.heap.size w w') (hg : w.heap.size ≤ g) (a0 a1 a2 a3 a4 a5 a6 : Value) :
    Below w.heap.size w (((((((w'.setCell ⟨g, 0, none⟩ a0).setCell ⟨g, 1, none⟩ a1).setCell ⟨g, 2, none⟩ a2).setCell ⟨g, 3, none⟩ a3).setCell ⟨g, 4, none⟩ a4).setCell ⟨g, 5, none⟩ a5).setCell ⟨g, 6, none⟩ a6) :=
  ((((((h.setCell (p := ⟨g, 0, none⟩) hg a0).setCell (p := ⟨g, 1, none⟩) hg a1).setCell (p := ⟨g, 2, none⟩) hg a2).setCell (p := ⟨g, 3, none⟩) hg a3).setCell (p := ⟨g, 4, none⟩) hg a4).setCell (p := ⟨g, 5, none⟩) hg a5).setCell (p := ⟨g, 6, none⟩) hg a6
theorem keep_seven {w' : World} {g k : Nat} (hk : k ≠ g) (a0 a1 a2 a3 a4 a5 a6 : Value) :
    (((((((w'.setCell ⟨g, 0, none⟩ a0).setCell ⟨g, 1, none⟩ a1).setCell ⟨g, 2, none⟩ a2).setCell ⟨g, 3, none⟩ a3).setCell ⟨g, 4, none⟩ a4).setCell ⟨g, 5, none⟩ a5).setCell ⟨g, 6, none⟩ a6).heap[k]? = w'.heap[k]? := by
  rw [Below.heap_setCell _ _ _ _ hk, Below.heap_setCell _ _ _ _ hk, Below.heap_setCell _ _ _ _ hk, Below.heap_setCell _ _ _ _ hk, Below.heap_setCell _ _ _ _ hk, Below.heap_setCell _ _ _ _ hk, Below.heap_setCell _ _ _ _ hk]

abbrev zeroEn : Obj := .cells #[.int .i64 0, .int .i64 0, .string ⟨#[]⟩, .int .i64 0, .int .i64 0, .int .i64 0, .slice none 0 0] 53 (0, 0)
theorem own_zero {w w' : World} {g base : Nat} {v : Value} {n : Nat} {xs : List Value} (h : w.ownsRow base 55 2 v n xs) (hg : w.heap[g]? = some zeroEn) (hk : ∀ k, k ≠ g → w'.heap[k]? = w.heap[k]?) : w'.ownsRow base 55 2 v n xs := by
  refine ⟨h.1, ?_⟩
  rcases h.2 with hn | ⟨g2, cap, cur, rfl, hb, hh, rest⟩
  · exact .inl hn
  · have hne : g2 ≠ g := fun e => by
      subst e
      rw [hh] at hg
      cases hg
    exact .inr ⟨g2, cap, cur, rfl, hb, (hk g2 hne).trans hh, rest⟩

set_option maxHeartbeats 4000000 in
set_option maxRecDepth 100000 in
theorem Take6_ok (e : R.En) (s r : List UInt8) (w : World) (hr : R.right e = true) (hs : E.Small e.b) (HS : Hid (s = R.bytes e ++ r)) (hl : s.length ≤ 1000000) :
    Calls Tryz.prog 75 #[.string (B s)] w fun x w' => ∃ v, x = .returned (.tuple #[enV e v, .string (B r), .int .i64 0]) ∧ w'.ownsRow w.heap.size 55 2 v e.b.events.length (evCells e.b.events) ∧ Below w.heap.size w w' := by
  obtain ⟨h1, h2, h3, h4, hfit⟩ := R.right_iff.1 hr
  have hlg : R.large = 274877906944 := rfl
  have HRT := Lib.hid hr
  obtain ⟨pos, ep, ⟨st, ex, se, sq, evs⟩⟩ := e
  dsimp only at h1 h2 h3 h4 hfit hs
  obtain ⟨pn, rfl⟩ : ∃ n : Nat, pos = n := ⟨pos.toNat, by omega⟩
  obtain ⟨en, rfl⟩ : ∃ n : Nat, ep = n := ⟨ep.toNat, by omega⟩
  have e1 : s = N.putL pn ++ (N.putL en ++ (E.bytes ⟨st, ex, se, sq, evs⟩ ++ r)) := by
    rw [HS.out]; unfold R.bytes
    dsimp only
    rw [show N.held (pn : Int) = pn by unfold N.held; omega, show N.held (en : Int) = en by unfold N.held; omega, List.append_assoc, List.append_assoc]
  obtain ⟨s2, HS2⟩ : ∃ s2, Hid (E.bytes ⟨st, ex, se, sq, evs⟩ ++ r = s2) := ⟨_, Lib.hid rfl⟩
  obtain ⟨s1, HS1⟩ : ∃ s1, Hid (N.putL en ++ s2 = s1) := ⟨_, Lib.hid rfl⟩
  rw [HS2.out, HS1.out] at e1
  have hl2 : s2.length ≤ s1.length := by rw [← HS1.out, List.length_append]; omega
  have hl1 : s1.length ≤ s.length := by rw [e1, List.length_append]; omega
  have HT1 : Hid (N.takeL s = Sum.inl (pn, s1)) := Lib.hid (by rw [e1]; exact N.take_put (by omega) _)
  have HT2 : Hid (N.takeL s1 = Sum.inl (en, s2)) := Lib.hid (by rw [← HS1.out]; exact N.take_put (by omega) _)
  have HT3 : Hid (batRes (E.takeBat s2) = (⟨st, ex, se, sq, evs⟩, r, 0)) := Lib.hid (by rw [← HS2.out, E.batC.back _ r (E.bat_ok hfit)]; rfl)
  have HSM := Lib.hid hs
  clear e1 HS HS1 HS2 hr hs hfit hlg
  have HA0 : Hid ((w.alloc (.cells #[.int .i64 0, .int .i64 0, .string ⟨#[]⟩, .int .i64 0, .int .i64 0, .int .i64 0, .slice none 0 0] 53)).heap[w.heap.size]? = some (.cells #[.int .i64 0, .int .i64 0, .string ⟨#[]⟩, .int .i64 0, .int .i64 0, .int .i64 0, .slice none 0 0] 53 (0, 0))) := Lib.hid (heap_alloc_new w _)
  have HB0 : Hid (Below w.heap.size w (w.alloc (.cells #[.int .i64 0, .int .i64 0, .string ⟨#[]⟩, .int .i64 0, .int .i64 0, .int .i64 0, .slice none 0 0] 53))) := Lib.hid ((Below.refl _ w).alloc (Nat.le_refl _) _)
  go_enter Tryz.func75, Tryz.ntmps75
  go_wp2_with fail
  generalize w.alloc (.cells #[.int .i64 0, .int .i64 0, .string ⟨#[]⟩, .int .i64 0, .int .i64 0, .int .i64 0, .slice none 0 0] 53) = W at HA0 HB0 ⊢
  refine (Take_l s W (by omega)).mono ?_
  rintro x w1 ⟨rfl, n1, rfl⟩
  rw [HT1.out, show tkRes (Sum.inl (pn, s1)) = _ from tkRes_ok pn s1]
  go_wp2_with fail
  refine (Take_l s1 _ (by omega)).mono ?_
  rintro x w1 ⟨rfl, n2, rfl⟩
  rw [HT2.out, show tkRes (Sum.inl (en, s2)) = _ from tkRes_ok en s2]
  go_wp2_with fail
  refine (ETakeBat_own s2 ⟨st, ex, se, sq, evs⟩ r _ (by omega) HT3).mono ?_
  rintro x w2 ⟨u, rfl, how2, hb2⟩
  have hre2 := readsE_own how2
  have HOW2 := Lib.hid (own_base5 (b := w.heap.size) how2 HB0.out.size)
  clear how2
  have hb2' : Below W.heap.size W w2 := ⟨hb2.os, hb2.tape, hb2.output, hb2.size, hb2.block⟩
  have HA2 := Lib.hid (block_below HA0.out hb2')
  have HB2 := Lib.hid (HB0.out.trans (hb2'.mono HB0.out.size))
  have HRE2 := Lib.hid hre2
  have hwl := lt_of_block HA2.out
  obtain ⟨ua, uc, rfl, _⟩ := hre2
  dsimp only [batV]
  clear hb2 hb2' HA0 HB0 HT1 HT2 HT3
  have HAL : Hid (∀ o1 o2, Below w2.heap.size w2 ((w2.alloc o1).alloc o2)) := Lib.hid fun o1 o2 => ((Below.refl _ w2).alloc (Nat.le_refl _) o1).alloc (by simp) o2
  go_wp2_with fail
  refine (Right6_at ⟨pn, en, ⟨st, ex, se, sq, evs⟩⟩ _ true _ (readsE_below HRE2.out (HAL.out _ _)) HSM.out HRT).mono ?_
  rintro x w3 ⟨rfl, hb3⟩
  have hx7 := X7_box hb3
  rw [World.size_alloc] at hx7
  obtain ⟨c0, c1, c2, c3, c4, c5, c6, -⟩ := hx7
  have hb23 : Below w2.heap.size w2 w3 := (HAL.out _ _).trans (hb3.mono (HAL.out _ _).size)
  have HA3 := Lib.hid (block_below HA2.out hb23)
  have HB3 := Lib.hid (HB2.out.trans (hb23.mono HB2.out.size))
  have HRE3 := Lib.hid (own_below5 HOW2.out hb23)
  clear hb3 hb23 HAL HA2 HB2 HRE2 HOW2
  have a0 := block_cell HA3.out 0
  have a1 := block_cell HA3.out 1
  have a2 := block_cell HA3.out 2
  have a3 := block_cell HA3.out 3
  have a4 := block_cell HA3.out 4
  have a5 := block_cell HA3.out 5
  have a6 := block_cell HA3.out 6
  simp only [List.getElem?_toArray, List.getElem?_cons_zero, List.getElem?_cons_succ] at a0 a1 a2 a3 a4 a5 a6
  have l0 := block_loose HA3.out 0
  have l1 := block_loose HA3.out 1
  have l2 := block_loose HA3.out 2
  have l3 := block_loose HA3.out 3
  have l4 := block_loose HA3.out 4
  have l5 := block_loose HA3.out 5
  have l6 := block_loose HA3.out 6
  go_wp2
  have HK := Lib.hid (set_seven (a0 := .int .i64 pn) (a1 := .int .i64 en) (a2 := .string (B st)) (a3 := .int .i64 ex) (a4 := .int .i64 se) (a5 := .int .i64 sq) (a6 := .slice ua evs.length uc) HA3.out)
  have HB9 := Lib.hid (below_seven HB3.out (Nat.le_refl _) (.int .i64 pn) (.int .i64 en) (.string (B st)) (.int .i64 ex) (.int .i64 se) (.int .i64 sq) (.slice ua evs.length uc))
  have HR9 := Lib.hid (own_zero HRE3.out HA3.out (fun k hk => keep_seven hk (.int .i64 pn) (.int .i64 en) (.string (B st)) (.int .i64 ex) (.int .i64 se) (.int .i64 sq) (.slice ua evs.length uc)))
  generalize ((((((w3.setCell ⟨w.heap.size, 0, none⟩ (.int .i64 pn)).setCell ⟨w.heap.size, 1, none⟩ (.int .i64 en)).setCell ⟨w.heap.size, 2, none⟩ (.string (B st))).setCell ⟨w.heap.size, 3, none⟩ (.int .i64 ex)).setCell ⟨w.heap.size, 4, none⟩ (.int .i64 se)).setCell ⟨w.heap.size, 5, none⟩ (.int .i64 sq)).setCell ⟨w.heap.size, 6, none⟩ (.slice ua evs.length uc) = w9 at HK HB9 HR9 ⊢
  have k0 := block_cell HK.out 0
  have k1 := block_cell HK.out 1
  have k2 := block_cell HK.out 2
  have k3 := block_cell HK.out 3
  have k4 := block_cell HK.out 4
  have k5 := block_cell HK.out 5
  have k6 := block_cell HK.out 6
  simp only [List.getElem?_toArray, List.getElem?_cons_zero, List.getElem?_cons_succ] at k0 k1 k2 k3 k4 k5 k6
  exact bodyPost_ret (v := .tuple #[enV ⟨pn, en, ⟨st, ex, se, sq, evs⟩⟩ (.slice ua evs.length uc), .string (B r), .int .i64 0]) (by simp [results, Tryz.results75, go_sem, k0, k1, k2, k3, k4, k5, k6]) rfl ⟨_, rfl, HR9.out, HB9.out⟩
end Go.Proofs.YtljcgpdjhjkciaaGreat
