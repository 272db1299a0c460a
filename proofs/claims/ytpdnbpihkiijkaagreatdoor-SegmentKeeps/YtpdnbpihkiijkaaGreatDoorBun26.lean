/-
  Own texts, joined: RecordPut RecordTake RecordSame RecordSame2 RecordSameRow
-/
import Derived.Test.YtpdnbpihkiijkaaGreatDoorBun24
import Derived.Test.YtpdnbpihkiijkaaGreatDoorBun22
import Derived.Test.YtpdnbpihkiijkaaGreatDoorBun9

/-
  Walks of Put and PutRow, of package record and of the document's answer.
-/
namespace Go.Proofs.YtpdnbpihkiijkaaGreatDoor
open Go.RowKit
attribute [local go_sem] ext_Bd ext_Bl ext_Bt toList_B add_B size_B get_Bt

/-- An entry in a box, as calls leave it. -/
abbrev X7 (w0 : World) (g : Nat) (pos ep : Int) (st : List UInt8) (ex se sq : Int) (v : Value) (a : World) : Prop :=
  a.cell? ⟨g, 0, none⟩ = some (.int .i64 pos) ∧ a.cell? ⟨g, 1, none⟩ = some (.int .i64 ep) ∧ a.cell? ⟨g, 2, none⟩ = some (.string (B st)) ∧ a.cell? ⟨g, 3, none⟩ = some (.int .i64 ex) ∧ a.cell? ⟨g, 4, none⟩ = some (.int .i64 se) ∧ a.cell? ⟨g, 5, none⟩ = some (.int .i64 sq) ∧ a.cell? ⟨g, 6, none⟩ = some v ∧ KeptB w0 a
section
variable {w0 a b : World} {g : Nat} {pos ep : Int} {st : List UInt8} {ex se sq : Int} {v : Value}
theorem X7_drew (h : X7 w0 g pos ep st ex se sq v a) : X7 w0 g pos ep st ex se sq v a.drew := by
  obtain ⟨h0, h1, h2, h3, h4, h5, h6, hk⟩ := h
  exact ⟨h0, h1, h2, h3, h4, h5, h6, keptB_drew hk⟩
theorem X7_call (h : X7 w0 g pos ep st ex se sq v a) (hb : Below a.heap.size a b) : X7 w0 g pos ep st ex se sq v b := by
  obtain ⟨h0, h1, h2, h3, h4, h5, h6, hk⟩ := h
  have key := below_keeps hb
  exact ⟨key _ _ h0, key _ _ h1, key _ _ h2, key _ _ h3, key _ _ h4, key _ _ h5, key _ _ h6, keptB_call hk hb⟩
theorem X7_bel (h : X7 w0 g pos ep st ex se sq v a) : Below w0.heap.size w0 a := h.2.2.2.2.2.2.2
theorem X7_box {w w1 : World} {t : TypeId} (hb : Below (w.alloc (.cells #[.int .i64 pos, .int .i64 ep, .string (B st), .int .i64 ex, .int .i64 se, .int .i64 sq, v] t)).heap.size (w.alloc (.cells #[.int .i64 pos, .int .i64 ep, .string (B st), .int .i64 ex, .int .i64 se, .int .i64 sq, v] t)) w1) : X7 w w.heap.size pos ep st ex se sq v w1 :=
  ⟨by rw [box_at hb]; rfl, by rw [box_at hb]; rfl, by rw [box_at hb]; rfl, by rw [box_at hb]; rfl, by rw [box_at hb]; rfl, by rw [box_at hb]; rfl, by rw [box_at hb]; rfl, below_box hb⟩
end

set_option maxHeartbeats 2000000 in
set_option maxRecDepth 100000 in
theorem bytesOf_at (e : R.En) (v : Value) (s : List UInt8) (w : World) (hv : ReadsE w v e.b.events) (hs : E.Small e.b) (hr : R.right e = true) (H : Hid (R.bytes e = s)) :
    Calls Tryz.prog 133 #[enV e v] w fun x w' => x = .returned (.string (B s)) ∧ Below w.heap.size w w' := by
  have hfit := (R.right_iff.1 hr).2.2.2.2
  obtain ⟨pos, ep, ⟨st, ex, se, sq, evs⟩⟩ := e
  dsimp only at hv hs hfit ⊢
  obtain ⟨a1, H1⟩ : ∃ a, Hid (N.putL (N.held pos) = a) := ⟨_, Lib.hid rfl⟩
  obtain ⟨a2, H2⟩ : ∃ a, Hid (N.putL (N.held ep) = a) := ⟨_, Lib.hid rfl⟩
  obtain ⟨a3, H3⟩ : ∃ a, Hid (E.putBat ⟨st, ex, se, sq, evs⟩ = a) := ⟨_, Lib.hid rfl⟩
  have l1 : a1.length ≤ 6 := by have := N.putL_len6 (N.held_le pos); rw [H1.out] at this; exact this
  have l2 : a2.length ≤ 6 := by have := N.putL_len6 (N.held_le ep); rw [H2.out] at this; exact this
  have l3 : a3.length ≤ 20000 := by have := E.bytes_len hfit; rw [← E.putBat_ok hfit, H3.out] at this; exact this
  have HE : Hid (s = a1 ++ (a2 ++ a3)) := Lib.hid (by rw [← H.out]; unfold R.bytes; rw [H1.out, H2.out, ← H3.out, E.putBat_ok hfit])
  have k1 := cat_run (a := a1) (c := a2) (by omega)
  have k2 := cat_run (a := a1 ++ a2) (c := a3) (by simp only [List.length_append]; omega)
  simp only [List.append_assoc] at k1 k2
  have HV := Lib.hid hv
  have HS := Lib.hid hs
  obtain ⟨a, cap, rfl, _⟩ := hv
  clear hs H hr hfit
  go_enter Tryz.func133, Tryz.ntmps133
  go_wp2
  have hS : X7 w w.heap.size pos ep st ex se sq (.slice a evs.length cap) (w.alloc (.cells #[.int .i64 pos, .int .i64 ep, .string (B st), .int .i64 ex, .int .i64 se, .int .i64 sq, .slice a evs.length cap] 55)) := X7_box (Below.refl _ _)
  generalize w.alloc (.cells #[.int .i64 pos, .int .i64 ep, .string (B st), .int .i64 ex, .int .i64 se, .int .i64 sq, .slice a evs.length cap] 55) = w1 at *
  go_region_held3 (fun w' => X7 w w.heap.size pos ep st ex se sq (.slice a evs.length cap) w')
    (first | assumption | exact X7_drew (by assumption) | exact X7_call (by assumption) (by assumption))
    (first
      | (go_at_call 96; with_reducible refine (Put_any_at pos a1 _ H1).mono ?_; rintro x w4 ⟨rfl, hb4⟩)
      | (go_at_call 96; with_reducible refine (Put_any_at ep a2 _ H2).mono ?_; rintro x w5 ⟨rfl, hb5⟩)
      | (go_at_call 159; with_reducible refine (EPutBat_at ⟨st, ex, se, sq, evs⟩ _ a3 _ (readsE_below HV.out (X7_bel (by assumption))) HS.out H3).mono ?_; rintro x w6 ⟨rfl, hb6⟩)
      | fail)
  rename_i hHeld
  have HB := Lib.hid (X7_bel hHeld)
  clear hHeld hS k1 k2
  go_wp2
  go_ret
  rw [HE.out]
  exact ⟨rfl, HB.out⟩

set_option maxHeartbeats 1000000 in
set_option maxRecDepth 100000 in
theorem Put6_at (e : R.En) (v : Value) (s : List UInt8) (w : World) (hv : ReadsE w v e.b.events) (hs : E.Small e.b) (H : Hid (R.putEn e = s)) :
    Calls Tryz.prog 99 #[enV e v] w fun x w' => x = .returned (.string (B s)) ∧ Below w.heap.size w w' := by
  obtain ⟨r, HR⟩ : ∃ r, Hid (R.right e = r) := ⟨_, Lib.hid rfl⟩
  have HV := Lib.hid hv
  have HS := Lib.hid hs
  obtain ⟨a, cap, rfl, _⟩ := hv
  clear hs
  go_enter Tryz.func99, Tryz.ntmps99
  go_wp2_with fail
  refine (Right6_at e _ r _ (readsE_below HV.out ((Below.refl _ w).alloc (Nat.le_refl _) _)) HS.out HR).mono ?_
  rintro x w1 ⟨rfl, hb1⟩
  obtain ⟨c0, c1, c2, c3, c4, c5, c6, hk⟩ := X7_box hb1
  have HB := Lib.hid (below_box hb1)
  clear hb1 hk
  cases r
  · have HE := Lib.hid (show s = [] by rw [← H.out]; exact R.putEn_bad HR.out)
    go_wp2
    go_ret
    rw [HE.out]
    exact ⟨rfl, HB.out⟩
  · have HE : Hid (R.bytes e = s) := Lib.hid (by rw [← H.out]; exact (R.putEn_ok HR.out).symm)
    go_wp2_with fail
    refine (bytesOf_at e _ s w1 (readsE_below HV.out HB.out) HS.out HR.out HE).mono ?_
    rintro x w2 ⟨rfl, hb2⟩
    have HB2 := Lib.hid (HB.out.trans (hb2.mono HB.out.size))
    clear hb2
    go_wp2
    go_ret
    exact ⟨rfl, HB2.out⟩

set_option maxHeartbeats 2000000 in
set_option maxRecDepth 100000 in
theorem refPut6_at (e : R.En) (v : Value) (s : List UInt8) (w : World) (hv : ReadsE w v e.b.events) (hs : E.Tiny e.b) (H : Hid (R.putEn e = s)) :
    Calls Tryz.prog 90 #[enV e v] w fun x w' => x = .returned (.string (B s)) ∧ Below w.heap.size w w' := by
  obtain ⟨r, HR⟩ : ∃ r, Hid (R.right e = r) := ⟨_, Lib.hid rfl⟩
  have HV := Lib.hid hv
  have HS := Lib.hid hs
  obtain ⟨a, cap, rfl, _⟩ := hv
  clear hs
  obtain ⟨pos, ep, ⟨st, ex, se, sq, evs⟩⟩ := e
  dsimp only at HV HS ⊢
  go_enter Tryz.func90, Tryz.ntmps90
  go_wp2_with fail
  refine (refRight6_at ⟨pos, ep, ⟨st, ex, se, sq, evs⟩⟩ _ r _ (readsE_below HV.out ((Below.refl _ w).alloc (Nat.le_refl _) _)) HS.out HR).mono ?_
  rintro x w1 ⟨rfl, hb1⟩
  have hS : X7 w w.heap.size pos ep st ex se sq (.slice a evs.length cap) w1 := X7_box hb1
  have HB := Lib.hid (below_box hb1)
  clear hb1
  cases r
  · have HE := Lib.hid (show s = [] by rw [← H.out]; exact R.putEn_bad HR.out)
    go_wp2
    go_ret
    rw [HE.out]
    exact ⟨rfl, HB.out⟩
  · have hfit : E.fits ⟨st, ex, se, sq, evs⟩ = 0 := (R.right_iff.1 HR.out).2.2.2.2
    obtain ⟨a1, H1⟩ : ∃ a, Hid (N.putL (N.held pos) = a) := ⟨_, Lib.hid rfl⟩
    obtain ⟨a2, H2⟩ : ∃ a, Hid (N.putL (N.held ep) = a) := ⟨_, Lib.hid rfl⟩
    obtain ⟨a3, H3⟩ : ∃ a, Hid (E.bytes ⟨st, ex, se, sq, evs⟩ = a) := ⟨_, Lib.hid rfl⟩
    have l1 : a1.length ≤ 6 := by have := N.putL_len6 (N.held_le pos); rw [H1.out] at this; exact this
    have l2 : a2.length ≤ 6 := by have := N.putL_len6 (N.held_le ep); rw [H2.out] at this; exact this
    have l3 : a3.length ≤ 20000 := by have := E.bytes_len hfit; rw [H3.out] at this; exact this
    have HE : Hid (s = a1 ++ (a2 ++ a3)) := Lib.hid (by rw [← H.out, R.putEn_ok HR.out]; unfold R.bytes; rw [H1.out, H2.out, H3.out])
    have k1 := cat_run (a := a1) (c := a2) (by omega)
    have k2 := cat_run (a := a1 ++ a2) (c := a3) (by simp only [List.length_append]; omega)
    simp only [List.append_assoc] at k1 k2
    have HPB : Hid (∀ w', X7 w w.heap.size pos ep st ex se sq (.slice a evs.length cap) w' → Calls Tryz.prog 121 #[batV ⟨st, ex, se, sq, evs⟩ (.slice a evs.length cap)] w' fun r w'' => r = .returned (.string (B a3)) ∧ Below w'.heap.size w' w'') := Lib.hid fun w' h => by
      rw [← H3.out]; exact refPutBat_ok ⟨st, ex, se, sq, evs⟩ _ w' (readsE_below HV.out (X7_bel h)) hfit
    clear hfit H
    go_wp2
    go_region_held3 (fun w' => X7 w w.heap.size pos ep st ex se sq (.slice a evs.length cap) w')
      (first | assumption | exact X7_drew (by assumption) | exact X7_call (by assumption) (by assumption))
      (first
        | (go_at_call 89; with_reducible refine (refNPut_at pos a1 _ H1).mono ?_; rintro x w4 ⟨rfl, hb4⟩)
        | (go_at_call 89; with_reducible refine (refNPut_at ep a2 _ H2).mono ?_; rintro x w5 ⟨rfl, hb5⟩)
        | (go_at_call 121; with_reducible refine (HPB.out _ (by assumption)).mono ?_; rintro x w6 ⟨rfl, hb6⟩)
        | fail)
    rename_i hHeld
    have HB2 := Lib.hid (X7_bel hHeld)
    clear hHeld hS k1 k2
    go_wp2
    go_ret
    rw [HE.out]
    exact ⟨rfl, HB2.out⟩
end Go.Proofs.YtpdnbpihkiijkaaGreatDoor

/-
  Walk of package record: Take, of bytes of a right entry.
-/
namespace Go.Proofs.YtpdnbpihkiijkaaGreatDoor
open Go.RowKit
attribute [local go_sem] ext_Bd ext_Bl ext_Bt toList_B add_B size_B get_Bt

theorem set_seven {w : World} {g : Nat} {x0 x1 x2 x3 x4 x5 x6 a0 a1 a2 a3 a4 a5 a6 : Value} {t : TypeId} (h : w.heap[g]? = some (.cells #[x0, x1, x2, x3, x4, x5, x6] t (0, 0))) :
    (((((((w.setCell ⟨g, 0, none⟩ a0).setCell ⟨g, 1, none⟩ a1).setCell ⟨g, 2, none⟩ a2).setCell ⟨g, 3, none⟩ a3).setCell ⟨g, 4, none⟩ a4).setCell ⟨g, 5, none⟩ a5).setCell ⟨g, 6, none⟩ a6).heap[g]? = some (.cells #[a0, a1, a2, a3, a4, a5, a6] t (0, 0)) := by
  have h0 : (w.setCell ⟨g, 0, none⟩ a0).heap[g]? = some (.cells #[a0, x1, x2, x3, x4, x5, x6] t (0, 0)) := set_block h 0 a0
  have h1 : ((w.setCell ⟨g, 0, none⟩ a0).setCell ⟨g, 1, none⟩ a1).heap[g]? = some (.cells #[a0, a1, x2, x3, x4, x5, x6] t (0, 0)) := set_block h0 1 a1
  generalize (w.setCell ⟨g, 0, none⟩ a0).setCell ⟨g, 1, none⟩ a1 = w1 at h1 ⊢
  have h2 : (w1.setCell ⟨g, 2, none⟩ a2).heap[g]? = some (.cells #[a0, a1, a2, x3, x4, x5, x6] t (0, 0)) := set_block h1 2 a2
  generalize w1.setCell ⟨g, 2, none⟩ a2 = w2 at h2 ⊢
  have h3 : (w2.setCell ⟨g, 3, none⟩ a3).heap[g]? = some (.cells #[a0, a1, a2, a3, x4, x5, x6] t (0, 0)) := set_block h2 3 a3
  generalize w2.setCell ⟨g, 3, none⟩ a3 = w3 at h3 ⊢
  have h4 : (w3.setCell ⟨g, 4, none⟩ a4).heap[g]? = some (.cells #[a0, a1, a2, a3, a4, x5, x6] t (0, 0)) := set_block h3 4 a4
  generalize w3.setCell ⟨g, 4, none⟩ a4 = w4 at h4 ⊢
  have h5 : (w4.setCell ⟨g, 5, none⟩ a5).heap[g]? = some (.cells #[a0, a1, a2, a3, a4, a5, x6] t (0, 0)) := set_block h4 5 a5
  generalize w4.setCell ⟨g, 5, none⟩ a5 = w5 at h5 ⊢
  exact set_block h5 6 a6
theorem below_seven {w w' : World} {g : Nat} (h : Below w.heap.size w w') (hg : w.heap.size ≤ g) (a0 a1 a2 a3 a4 a5 a6 : Value) :
    Below w.heap.size w (((((((w'.setCell ⟨g, 0, none⟩ a0).setCell ⟨g, 1, none⟩ a1).setCell ⟨g, 2, none⟩ a2).setCell ⟨g, 3, none⟩ a3).setCell ⟨g, 4, none⟩ a4).setCell ⟨g, 5, none⟩ a5).setCell ⟨g, 6, none⟩ a6) :=
  ((((((h.setCell (p := ⟨g, 0, none⟩) hg a0).setCell (p := ⟨g, 1, none⟩) hg a1).setCell (p := ⟨g, 2, none⟩) hg a2).setCell (p := ⟨g, 3, none⟩) hg a3).setCell (p := ⟨g, 4, none⟩) hg a4).setCell (p := ⟨g, 5, none⟩) hg a5).setCell (p := ⟨g, 6, none⟩) hg a6
theorem keep_seven {w' : World} {g k : Nat} (hk : k ≠ g) (a0 a1 a2 a3 a4 a5 a6 : Value) :
    (((((((w'.setCell ⟨g, 0, none⟩ a0).setCell ⟨g, 1, none⟩ a1).setCell ⟨g, 2, none⟩ a2).setCell ⟨g, 3, none⟩ a3).setCell ⟨g, 4, none⟩ a4).setCell ⟨g, 5, none⟩ a5).setCell ⟨g, 6, none⟩ a6).heap[k]? = w'.heap[k]? := by
  rw [Below.heap_setCell _ _ _ _ hk, Below.heap_setCell _ _ _ _ hk, Below.heap_setCell _ _ _ _ hk, Below.heap_setCell _ _ _ _ hk, Below.heap_setCell _ _ _ _ hk, Below.heap_setCell _ _ _ _ hk, Below.heap_setCell _ _ _ _ hk]

abbrev zeroEn : Obj := .cells #[.int .i64 0, .int .i64 0, .string ⟨#[]⟩, .int .i64 0, .int .i64 0, .int .i64 0, .slice none 0 0] 55 (0, 0)
theorem own_zero {w w' : World} {g base : Nat} {v : Value} {n : Nat} {xs : List Value} (h : w.ownsRow base 98 2 v n xs) (hg : w.heap[g]? = some zeroEn) (hk : ∀ k, k ≠ g → w'.heap[k]? = w.heap[k]?) : w'.ownsRow base 98 2 v n xs := by
  refine ⟨h.1, ?_⟩
  rcases h.2 with hn | ⟨g2, cap, cur, rfl, hb, hh, rest⟩
  · exact .inl hn
  · have hne : g2 ≠ g := fun e => by
      subst e
      rw [hh] at hg
      cases hg
    exact .inr ⟨g2, cap, cur, rfl, hb, (hk g2 hne).trans hh, rest⟩

set_option maxHeartbeats 4000000 in
set_option maxRecDepth 100000 in
theorem Take6_ok (e : R.En) (s r : List UInt8) (w : World) (hr : R.right e = true) (hs : E.Small e.b) (HS : Hid (s = R.bytes e ++ r)) (hl : s.length ≤ 1000000) :
    Calls Tryz.prog 114 #[.string (B s)] w fun x w' => ∃ v, x = .returned (.tuple #[enV e v, .string (B r), .int .i64 0]) ∧ w'.ownsRow w.heap.size 98 2 v e.b.events.length (evCells e.b.events) ∧ Below w.heap.size w w' := by
  obtain ⟨h1, h2, h3, h4, hfit⟩ := R.right_iff.1 hr
  have hlg : R.large = 274877906944 := rfl
  have HRT := Lib.hid hr
  obtain ⟨pos, ep, ⟨st, ex, se, sq, evs⟩⟩ := e
  dsimp only at h1 h2 h3 h4 hfit hs
  obtain ⟨pn, rfl⟩ : ∃ n : Nat, pos = n := ⟨pos.toNat, by omega⟩
  obtain ⟨en, rfl⟩ : ∃ n : Nat, ep = n := ⟨ep.toNat, by omega⟩
  have e1 : s = N.putL pn ++ (N.putL en ++ (E.bytes ⟨st, ex, se, sq, evs⟩ ++ r)) := by
    rw [HS.out]; unfold R.bytes
    dsimp only
    rw [show N.held (pn : Int) = pn by unfold N.held; omega, show N.held (en : Int) = en by unfold N.held; omega, List.append_assoc, List.append_assoc]
  obtain ⟨s2, HS2⟩ : ∃ s2, Hid (E.bytes ⟨st, ex, se, sq, evs⟩ ++ r = s2) := ⟨_, Lib.hid rfl⟩
  obtain ⟨s1, HS1⟩ : ∃ s1, Hid (N.putL en ++ s2 = s1) := ⟨_, Lib.hid rfl⟩
  rw [HS2.out, HS1.out] at e1
  have hl2 : s2.length ≤ s1.length := by rw [← HS1.out, List.length_append]; omega
  have hl1 : s1.length ≤ s.length := by rw [e1, List.length_append]; omega
  have HT1 : Hid (N.takeL s = Sum.inl (pn, s1)) := Lib.hid (by rw [e1]; exact N.take_put (by omega) _)
  have HT2 : Hid (N.takeL s1 = Sum.inl (en, s2)) := Lib.hid (by rw [← HS1.out]; exact N.take_put (by omega) _)
  have HT3 : Hid (batRes (E.takeBat s2) = (⟨st, ex, se, sq, evs⟩, r, 0)) := Lib.hid (by rw [← HS2.out, E.batC.back _ r (E.bat_ok hfit)]; rfl)
  have HSM := Lib.hid hs
  clear e1 HS HS1 HS2 hr hs hfit hlg
  have HA0 : Hid ((w.alloc (.cells #[.int .i64 0, .int .i64 0, .string ⟨#[]⟩, .int .i64 0, .int .i64 0, .int .i64 0, .slice none 0 0] 55)).heap[w.heap.size]? = some (.cells #[.int .i64 0, .int .i64 0, .string ⟨#[]⟩, .int .i64 0, .int .i64 0, .int .i64 0, .slice none 0 0] 55 (0, 0))) := Lib.hid (heap_alloc_new w _)
  have HB0 : Hid (Below w.heap.size w (w.alloc (.cells #[.int .i64 0, .int .i64 0, .string ⟨#[]⟩, .int .i64 0, .int .i64 0, .int .i64 0, .slice none 0 0] 55))) := Lib.hid ((Below.refl _ w).alloc (Nat.le_refl _) _)
  go_enter Tryz.func114, Tryz.ntmps114
  go_wp2_with fail
  generalize w.alloc (.cells #[.int .i64 0, .int .i64 0, .string ⟨#[]⟩, .int .i64 0, .int .i64 0, .int .i64 0, .slice none 0 0] 55) = W at HA0 HB0 ⊢
  refine (Take_l s W (by omega)).mono ?_
  rintro x w1 ⟨rfl, n1, rfl⟩
  rw [HT1.out, show tkRes (Sum.inl (pn, s1)) = _ from tkRes_ok pn s1]
  go_wp2_with fail
  refine (Take_l s1 _ (by omega)).mono ?_
  rintro x w1 ⟨rfl, n2, rfl⟩
  rw [HT2.out, show tkRes (Sum.inl (en, s2)) = _ from tkRes_ok en s2]
  go_wp2_with fail
  refine (ETakeBat_own s2 ⟨st, ex, se, sq, evs⟩ r _ (by omega) HT3).mono ?_
  rintro x w2 ⟨u, rfl, how2, hb2⟩
  have hre2 := readsE_own how2
  have HOW2 := Lib.hid (own_base5 (b := w.heap.size) how2 HB0.out.size)
  clear how2
  have hb2' : Below W.heap.size W w2 := ⟨hb2.os, hb2.tape, hb2.output, hb2.size, hb2.block⟩
  have HA2 := Lib.hid (block_below HA0.out hb2')
  have HB2 := Lib.hid (HB0.out.trans (hb2'.mono HB0.out.size))
  have HRE2 := Lib.hid hre2
  have hwl := lt_of_block HA2.out
  obtain ⟨ua, uc, rfl, _⟩ := hre2
  dsimp only [batV]
  clear hb2 hb2' HA0 HB0 HT1 HT2 HT3
  have HAL : Hid (∀ o1 o2, Below w2.heap.size w2 ((w2.alloc o1).alloc o2)) := Lib.hid fun o1 o2 => ((Below.refl _ w2).alloc (Nat.le_refl _) o1).alloc (by simp) o2
  go_wp2_with fail
  refine (Right6_at ⟨pn, en, ⟨st, ex, se, sq, evs⟩⟩ _ true _ (readsE_below HRE2.out (HAL.out _ _)) HSM.out HRT).mono ?_
  rintro x w3 ⟨rfl, hb3⟩
  have hx7 := X7_box hb3
  rw [World.size_alloc] at hx7
  obtain ⟨c0, c1, c2, c3, c4, c5, c6, -⟩ := hx7
  have hb23 : Below w2.heap.size w2 w3 := (HAL.out _ _).trans (hb3.mono (HAL.out _ _).size)
  have HA3 := Lib.hid (block_below HA2.out hb23)
  have HB3 := Lib.hid (HB2.out.trans (hb23.mono HB2.out.size))
  have HRE3 := Lib.hid (own_below5 HOW2.out hb23)
  clear hb3 hb23 HAL HA2 HB2 HRE2 HOW2
  have a0 := block_cell HA3.out 0
  have a1 := block_cell HA3.out 1
  have a2 := block_cell HA3.out 2
  have a3 := block_cell HA3.out 3
  have a4 := block_cell HA3.out 4
  have a5 := block_cell HA3.out 5
  have a6 := block_cell HA3.out 6
  simp only [List.getElem?_toArray, List.getElem?_cons_zero, List.getElem?_cons_succ] at a0 a1 a2 a3 a4 a5 a6
  have l0 := block_loose HA3.out 0
  have l1 := block_loose HA3.out 1
  have l2 := block_loose HA3.out 2
  have l3 := block_loose HA3.out 3
  have l4 := block_loose HA3.out 4
  have l5 := block_loose HA3.out 5
  have l6 := block_loose HA3.out 6
  go_wp2
  have HK := Lib.hid (set_seven (a0 := .int .i64 pn) (a1 := .int .i64 en) (a2 := .string (B st)) (a3 := .int .i64 ex) (a4 := .int .i64 se) (a5 := .int .i64 sq) (a6 := .slice ua evs.length uc) HA3.out)
  have HB9 := Lib.hid (below_seven HB3.out (Nat.le_refl _) (.int .i64 pn) (.int .i64 en) (.string (B st)) (.int .i64 ex) (.int .i64 se) (.int .i64 sq) (.slice ua evs.length uc))
  have HR9 := Lib.hid (own_zero HRE3.out HA3.out (fun k hk => keep_seven hk (.int .i64 pn) (.int .i64 en) (.string (B st)) (.int .i64 ex) (.int .i64 se) (.int .i64 sq) (.slice ua evs.length uc)))
  generalize ((((((w3.setCell ⟨w.heap.size, 0, none⟩ (.int .i64 pn)).setCell ⟨w.heap.size, 1, none⟩ (.int .i64 en)).setCell ⟨w.heap.size, 2, none⟩ (.string (B st))).setCell ⟨w.heap.size, 3, none⟩ (.int .i64 ex)).setCell ⟨w.heap.size, 4, none⟩ (.int .i64 se)).setCell ⟨w.heap.size, 5, none⟩ (.int .i64 sq)).setCell ⟨w.heap.size, 6, none⟩ (.slice ua evs.length uc) = w9 at HK HB9 HR9 ⊢
  have k0 := block_cell HK.out 0
  have k1 := block_cell HK.out 1
  have k2 := block_cell HK.out 2
  have k3 := block_cell HK.out 3
  have k4 := block_cell HK.out 4
  have k5 := block_cell HK.out 5
  have k6 := block_cell HK.out 6
  simp only [List.getElem?_toArray, List.getElem?_cons_zero, List.getElem?_cons_succ] at k0 k1 k2 k3 k4 k5 k6
  exact bodyPost_ret (v := .tuple #[enV ⟨pn, en, ⟨st, ex, se, sq, evs⟩⟩ (.slice ua evs.length uc), .string (B r), .int .i64 0]) (by simp [results, Tryz.results114, go_sem, k0, k1, k2, k3, k4, k5, k6]) rfl ⟨_, rfl, HR9.out, HB9.out⟩
end Go.Proofs.YtpdnbpihkiijkaaGreatDoor

/-
  Walks of Same, of package record and of the document's answer.
-/
namespace Go.Proofs.YtpdnbpihkiijkaaGreatDoor
open Go.RowKit
attribute [local go_sem] ext_Bd ext_Bl ext_Bt toList_B add_B size_B get_Bt

def R.same (x y : R.En) : Bool := decide (x.pos = y.pos) && (decide (x.epoch = y.epoch) && E.sameB x.b y.b)


theorem allocs4 (w : World) (o1 o2 o3 o4 : Obj) : Below w.heap.size w ((((w.alloc o1).alloc o2).alloc o3).alloc o4) :=
  ((((Below.refl _ w).alloc (Nat.le_refl _) o1).alloc (by simp) o2).alloc (by simp; omega) o3).alloc (by simp; omega) o4
set_option maxHeartbeats 4000000 in
set_option maxRecDepth 100000 in
theorem refSame_head (x y : R.En) (vx vy : Value) (w : World) (hx : ReadsE w vx x.b.events) (hy : ReadsE w vy y.b.events)
    (h : ¬ (x.pos = y.pos ∧ x.epoch = y.epoch ∧ x.b.stream = y.b.stream ∧ x.b.expect = y.b.expect ∧ x.b.session = y.b.session ∧ x.b.seq = y.b.seq ∧ x.b.events.length = y.b.events.length)) :
    Calls Tryz.prog 71 #[enV x vx, enV y vy] w fun r w' => r = .returned (.bool false) ∧ Below w.heap.size w w' := by
  obtain ⟨p1, e1, ⟨st1, ex1, se1, sq1, ev1⟩⟩ := x
  obtain ⟨p2, e2, ⟨st2, ex2, se2, sq2, ev2⟩⟩ := y
  dsimp only at hx hy h ⊢
  obtain ⟨a1, c1, rfl, _⟩ := hx
  obtain ⟨a2, c2, rfl, _⟩ := hy
  by_cases h1 : ¬ p1 = p2
  · have g : (p1 == p2) = false := beq_eq_false_iff_ne.2 h1
    have gn : (p1 != p2) = true := by simpa using h1
    clear h h1
    go_enter Tryz.func71, Tryz.ntmps71
    go_wp2
    all_goals
      go_ret
      exact ⟨rfl, allocs4 _ _ _ _ _⟩
  replace h1 := Decidable.of_not_not h1
  by_cases h2 : ¬ e1 = e2
  · have g : (e1 == e2) = false := beq_eq_false_iff_ne.2 h2
    have gn : (e1 != e2) = true := by simpa using h2
    clear h h2
    subst h1
    go_enter Tryz.func71, Tryz.ntmps71
    go_wp2
    all_goals
      go_ret
      exact ⟨rfl, allocs4 _ _ _ _ _⟩
  replace h2 := Decidable.of_not_not h2
  by_cases h3 : ¬ st1 = st2
  · have g : (st1 == st2) = false := beq_eq_false_iff_ne.2 h3
    have gn : (st1 != st2) = true := by simpa using h3
    clear h h3
    subst h1 h2
    go_enter Tryz.func71, Tryz.ntmps71
    go_wp2
    all_goals
      go_ret
      exact ⟨rfl, allocs4 _ _ _ _ _⟩
  replace h3 := Decidable.of_not_not h3
  by_cases h4 : ¬ ex1 = ex2
  · have g : (ex1 == ex2) = false := beq_eq_false_iff_ne.2 h4
    have gn : (ex1 != ex2) = true := by simpa using h4
    clear h h4
    subst h1 h2 h3
    go_enter Tryz.func71, Tryz.ntmps71
    go_wp2
    all_goals
      go_ret
      exact ⟨rfl, allocs4 _ _ _ _ _⟩
  replace h4 := Decidable.of_not_not h4
  by_cases h5 : ¬ se1 = se2
  · have g : (se1 == se2) = false := beq_eq_false_iff_ne.2 h5
    have gn : (se1 != se2) = true := by simpa using h5
    clear h h5
    subst h1 h2 h3 h4
    go_enter Tryz.func71, Tryz.ntmps71
    go_wp2
    all_goals
      go_ret
      exact ⟨rfl, allocs4 _ _ _ _ _⟩
  replace h5 := Decidable.of_not_not h5
  by_cases h6 : ¬ sq1 = sq2
  · have g : (sq1 == sq2) = false := beq_eq_false_iff_ne.2 h6
    have gn : (sq1 != sq2) = true := by simpa using h6
    clear h h6
    subst h1 h2 h3 h4 h5
    go_enter Tryz.func71, Tryz.ntmps71
    go_wp2
    all_goals
      go_ret
      exact ⟨rfl, allocs4 _ _ _ _ _⟩
  replace h6 := Decidable.of_not_not h6
  have h7 : ¬ ev1.length = ev2.length := fun h7 => h ⟨h1, h2, h3, h4, h5, h6, h7⟩
  have g7 : ((ev1.length : Int) != (ev2.length : Int)) = true := by simp; omega
  have g8 : (ev1.length != ev2.length) = true := by simpa using h7
  clear h h7
  subst h1 h2 h3 h4 h5 h6
  go_enter Tryz.func71, Tryz.ntmps71
  go_wp2
  all_goals
    go_ret
    exact ⟨rfl, allocs4 _ _ _ _ _⟩
end Go.Proofs.YtpdnbpihkiijkaaGreatDoor

/-
  Walk of Same of the document's answer, and what SameRow of it tells.
-/
namespace Go.Proofs.YtpdnbpihkiijkaaGreatDoor
open Go.RowKit
attribute [local go_sem] ext_Bd ext_Bl ext_Bt toList_B add_B size_B get_Bt

set_option maxHeartbeats 4000000 in
set_option maxRecDepth 100000 in
theorem refSame_tail (ps ep : Int) (st : List UInt8) (ex se sq : Int) (xs ys : List E.Ev) (va vb : Value) (w : World) (ha : ReadsE w va xs) (hb : ReadsE w vb ys) (hne : xs.length = ys.length) (hl : xs.length ≤ 1000000) :
    Calls Tryz.prog 71 #[enV ⟨ps, ep, ⟨st, ex, se, sq, xs⟩⟩ va, enV ⟨ps, ep, ⟨st, ex, se, sq, ys⟩⟩ vb] w fun r w' => r = .returned (.bool (decide (xs = ys))) ∧ Below w.heap.size w w' := by
  obtain ⟨p, c, rfl, _, _, hx⟩ := ha
  obtain ⟨q, d, rfl, _, _, hy⟩ := hb
  have HX := Lib.hid hx; clear hx
  have HY := Lib.hid hy; clear hy
  obtain ⟨r, HR⟩ : ∃ r, Hid (decide (xs = ys) = r) := ⟨_, Lib.hid rfl⟩
  rw [HR.out]
  have hnb : ((xs.length : Int) != (ys.length : Int)) = false := by simp; omega
  have hnn : (xs.length != ys.length) = false := by simpa using hne
  have HNE := Lib.hid hne; clear hne
  dsimp only [enV]
  go_enter Tryz.func71, Tryz.ntmps71
  go_wp2
  have hB := allocs4 w (.cells #[.int .i64 ps, .int .i64 ep, .string (B st), .int .i64 ex, .int .i64 se, .int .i64 sq, .slice p xs.length c] 55) (.cells #[.int .i64 ps, .int .i64 ep, .string (B st), .int .i64 ex, .int .i64 se, .int .i64 sq, .slice q ys.length d] 55) (.cells #[.string (B st), .int .i64 ex, .int .i64 se, .int .i64 sq, .slice p xs.length c] 53) (.cells #[.string (B st), .int .i64 ex, .int .i64 se, .int .i64 sq, .slice q ys.length d] 53)
  have c2 : ((((w.alloc (.cells #[.int .i64 ps, .int .i64 ep, .string (B st), .int .i64 ex, .int .i64 se, .int .i64 sq, .slice p xs.length c] 55)).alloc (.cells #[.int .i64 ps, .int .i64 ep, .string (B st), .int .i64 ex, .int .i64 se, .int .i64 sq, .slice q ys.length d] 55)).alloc (.cells #[.string (B st), .int .i64 ex, .int .i64 se, .int .i64 sq, .slice p xs.length c] 53)).alloc (.cells #[.string (B st), .int .i64 ex, .int .i64 se, .int .i64 sq, .slice q ys.length d] 53)).cell? ⟨w.heap.size + 2, 4, none⟩ = some (.slice p xs.length c) := by
    have := box_at ((Below.refl _ (((w.alloc (.cells #[.int .i64 ps, .int .i64 ep, .string (B st), .int .i64 ex, .int .i64 se, .int .i64 sq, .slice p xs.length c] 55)).alloc (.cells #[.int .i64 ps, .int .i64 ep, .string (B st), .int .i64 ex, .int .i64 se, .int .i64 sq, .slice q ys.length d] 55)).alloc (.cells #[.string (B st), .int .i64 ex, .int .i64 se, .int .i64 sq, .slice p xs.length c] 53))).alloc (Nat.le_refl _) (.cells #[.string (B st), .int .i64 ex, .int .i64 se, .int .i64 sq, .slice q ys.length d] 53)) 4
    rw [World.size_alloc, World.size_alloc] at this
    exact this
  have c3 : ((((w.alloc (.cells #[.int .i64 ps, .int .i64 ep, .string (B st), .int .i64 ex, .int .i64 se, .int .i64 sq, .slice p xs.length c] 55)).alloc (.cells #[.int .i64 ps, .int .i64 ep, .string (B st), .int .i64 ex, .int .i64 se, .int .i64 sq, .slice q ys.length d] 55)).alloc (.cells #[.string (B st), .int .i64 ex, .int .i64 se, .int .i64 sq, .slice p xs.length c] 53)).alloc (.cells #[.string (B st), .int .i64 ex, .int .i64 se, .int .i64 sq, .slice q ys.length d] 53)).cell? ⟨w.heap.size + 3, 4, none⟩ = some (.slice q ys.length d) := by
    have := box_cells (((w.alloc (.cells #[.int .i64 ps, .int .i64 ep, .string (B st), .int .i64 ex, .int .i64 se, .int .i64 sq, .slice p xs.length c] 55)).alloc (.cells #[.int .i64 ps, .int .i64 ep, .string (B st), .int .i64 ex, .int .i64 se, .int .i64 sq, .slice q ys.length d] 55)).alloc (.cells #[.string (B st), .int .i64 ex, .int .i64 se, .int .i64 sq, .slice p xs.length c] 53)) #[.string (B st), .int .i64 ex, .int .i64 se, .int .i64 sq, .slice q ys.length d] 53 4
    rw [World.size_alloc, World.size_alloc, World.size_alloc] at this
    exact this
  generalize (((w.alloc (.cells #[.int .i64 ps, .int .i64 ep, .string (B st), .int .i64 ex, .int .i64 se, .int .i64 sq, .slice p xs.length c] 55)).alloc (.cells #[.int .i64 ps, .int .i64 ep, .string (B st), .int .i64 ex, .int .i64 se, .int .i64 sq, .slice q ys.length d] 55)).alloc (.cells #[.string (B st), .int .i64 ex, .int .i64 se, .int .i64 sq, .slice p xs.length c] 53)).alloc (.cells #[.string (B st), .int .i64 ex, .int .i64 se, .int .i64 sq, .slice q ys.length d] 53) = W at *
  go_loopw [7] (fun i wr => ∃ k : Nat, i = .int .i64 k ∧ k ≤ xs.length ∧ xs.take k = ys.take k ∧ sQuiet W wr) (fun i _ => xs.length - (intOf i).toNat)
  case atStart => exact ⟨0, rfl, Nat.zero_le _, by simp, 0, rfl⟩
  case round =>
    obtain ⟨k, rfl, hk, ht, nq, rfl⟩ := hrel
    have HT := Lib.hid ht; clear ht
    by_cases hlt : k < xs.length
    · have hlt2 : k < ys.length := by rw [← HNE.out]; exact hlt
      obtain ⟨b1, o1, rfl, p0, p1⟩ := HX.out k hlt
      obtain ⟨b2, o2, rfl, q0, q1⟩ := HY.out k hlt2
      have x0 := below_keeps2 hB p0
      have x1 := below_keeps2 hB p1
      have y0 := below_keeps2 hB q0
      have y1 := below_keeps2 hB q1
      have hi1 : (k : Int) < (xs.length : Int) := by omega
      have hi2 : (k : Int) < (ys.length : Int) := by omega
      clear p0 p1 q0 q1
      by_cases he : xs[k] = ys[k]
      · have HS := Lib.hid (ev_step hlt hlt2 HT.out he)
        have e1 : (xs[k].1 == ys[k].1) = true := by rw [he]; simp
        have e2 : (xs[k].2 == ys[k].2) = true := by rw [he]; simp
        clear he
        generalize xs[k] = x at x0 x1 e1 e2
        generalize ys[k] = y at y0 y1 e1 e2
        go_wp2
        go_quiet (fail)
        go_wp2
        go_roundw
        case rel => exact ⟨k + 1, by go_num, by omega, HS.out, _, rfl⟩
        case measure => simp [intOf]; omega
      · have HE := Lib.hid (show r = false by
          rw [← HR.out]
          exact decide_eq_false fun h => by subst h; exact he rfl)
        by_cases he1 : xs[k].1 = ys[k].1
        · have he2 : ¬ xs[k].2 = ys[k].2 := fun h => he (Prod.ext he1 h)
          have e1 : (xs[k].1 == ys[k].1) = true := beq_iff_eq.2 he1
          have e2 : (xs[k].2 == ys[k].2) = false := beq_eq_false_iff_ne.2 he2
          clear he he1 he2
          generalize xs[k] = x at x0 x1 e1 e2
          generalize ys[k] = y at y0 y1 e1 e2
          go_wp2
          go_quiet (fail)
          go_wp2
          go_ret
          rw [HE.out]
          exact ⟨rfl, below_quiet hB (quiet_two _ _ _)⟩
        · have e1 : (xs[k].1 == ys[k].1) = false := beq_eq_false_iff_ne.2 he1
          clear he he1
          generalize xs[k] = x at x0 x1 e1
          generalize ys[k] = y at y0 y1 e1
          go_wp2
          go_quiet (fail)
          go_wp2
          go_ret
          rw [HE.out]
          exact ⟨rfl, below_quiet hB (quiet_two _ _ _)⟩
    · have HE := Lib.hid (show r = true by
        rw [← HR.out]
        have h1 := HT.out
        rw [List.take_of_length_le (by omega), List.take_of_length_le (by rw [← HNE.out]; omega)] at h1
        exact decide_eq_true h1)
      go_wp2
      go_ret
      rw [HE.out]
      exact ⟨rfl, below_quiet hB ⟨_, rfl⟩⟩
theorem refSame_at (x y : R.En) (vx vy : Value) (r : Bool) (w : World) (hx : ReadsE w vx x.b.events) (hy : ReadsE w vy y.b.events) (sx : x.b.events.length ≤ 1000000) (H : Hid (R.same x y = r)) :
    Calls Tryz.prog 71 #[enV x vx, enV y vy] w fun e w' => e = .returned (.bool r) ∧ Below w.heap.size w w' := by
  rw [← H.out]
  by_cases h : x.pos = y.pos ∧ x.epoch = y.epoch ∧ x.b.stream = y.b.stream ∧ x.b.expect = y.b.expect ∧ x.b.session = y.b.session ∧ x.b.seq = y.b.seq ∧ x.b.events.length = y.b.events.length
  · obtain ⟨p1, e1, ⟨st1, ex1, se1, sq1, ev1⟩⟩ := x
    obtain ⟨p2, e2, ⟨st2, ex2, se2, sq2, ev2⟩⟩ := y
    obtain ⟨h1, h2, h3, h4, h5, h6, h7⟩ := h
    dsimp only at h1 h2 h3 h4 h5 h6 h7 hx hy sx
    subst h1 h2 h3 h4 h5 h6
    have e : R.same ⟨p1, e1, ⟨st1, ex1, se1, sq1, ev1⟩⟩ ⟨p1, e1, ⟨st1, ex1, se1, sq1, ev2⟩⟩ = decide (ev1 = ev2) := by unfold R.same E.sameB; simp
    rw [e]
    exact refSame_tail p1 e1 st1 ex1 se1 sq1 ev1 ev2 vx vy w hx hy h7 sx
  · have e : R.same x y = false := by
      cases hs : R.same x y
      · rfl
      · exfalso
        unfold R.same at hs
        simp only [Bool.and_eq_true, decide_eq_true_eq] at hs
        refine h ⟨hs.1, hs.2.1, ?_⟩
        by_cases hb : x.b.stream = y.b.stream ∧ x.b.expect = y.b.expect ∧ x.b.session = y.b.session ∧ x.b.seq = y.b.seq ∧ x.b.events = y.b.events
        · exact ⟨hb.1, hb.2.1, hb.2.2.1, hb.2.2.2.1, by rw [hb.2.2.2.2]⟩
        · rw [E.sameB_ne hb] at hs
          cases hs.2.2
    rw [e]
    exact refSame_head x y vx vy w hx hy h
end Go.Proofs.YtpdnbpihkiijkaaGreatDoor

/-
  Walk of SameRow of the document's answer, of two rows that are the same.
-/
namespace Go.Proofs.YtpdnbpihkiijkaaGreatDoor
open Go.RowKit
attribute [local go_sem] ext_Bd ext_Bl ext_Bt toList_B add_B size_B get_Bt

/-- Two entries in two rows, as calls leave them. -/
abbrev YY (w0 : World) (g i : Nat) (p1 e1 : Int) (s1 : List UInt8) (x1 y1 z1 : Int) (v1 : Value) (h o : Nat) (p2 e2 : Int) (s2 : List UInt8) (x2 y2 z2 : Int) (v2 : Value) (a : World) : Prop :=
  a.cell? ⟨g, i, none⟩ = some (.int .i64 p1) ∧ a.cell? ⟨g, i + 1, none⟩ = some (.int .i64 e1) ∧ a.cell? ⟨g, i + 2, none⟩ = some (.string (B s1)) ∧ a.cell? ⟨g, i + 3, none⟩ = some (.int .i64 x1) ∧ a.cell? ⟨g, i + 4, none⟩ = some (.int .i64 y1) ∧ a.cell? ⟨g, i + 5, none⟩ = some (.int .i64 z1) ∧ a.cell? ⟨g, i + 6, none⟩ = some v1 ∧
  a.cell? ⟨h, o, none⟩ = some (.int .i64 p2) ∧ a.cell? ⟨h, o + 1, none⟩ = some (.int .i64 e2) ∧ a.cell? ⟨h, o + 2, none⟩ = some (.string (B s2)) ∧ a.cell? ⟨h, o + 3, none⟩ = some (.int .i64 x2) ∧ a.cell? ⟨h, o + 4, none⟩ = some (.int .i64 y2) ∧ a.cell? ⟨h, o + 5, none⟩ = some (.int .i64 z2) ∧ a.cell? ⟨h, o + 6, none⟩ = some v2 ∧ KeptB w0 a
section
variable {w0 : World} {g i h o : Nat} {p1 e1 p2 e2 : Int} {s1 s2 : List UInt8} {x1 y1 z1 x2 y2 z2 : Int} {v1 v2 : Value} {a b : World}
theorem YY_drew (hs : YY w0 g i p1 e1 s1 x1 y1 z1 v1 h o p2 e2 s2 x2 y2 z2 v2 a) : YY w0 g i p1 e1 s1 x1 y1 z1 v1 h o p2 e2 s2 x2 y2 z2 v2 a.drew := by
  obtain ⟨h0, h1, h2, h3, h4, h5, h6, q0, q1, q2, q3, q4, q5, q6, hk⟩ := hs
  exact ⟨h0, h1, h2, h3, h4, h5, h6, q0, q1, q2, q3, q4, q5, q6, keptB_drew hk⟩
theorem YY_call (hs : YY w0 g i p1 e1 s1 x1 y1 z1 v1 h o p2 e2 s2 x2 y2 z2 v2 a) (hb : Below a.heap.size a b) : YY w0 g i p1 e1 s1 x1 y1 z1 v1 h o p2 e2 s2 x2 y2 z2 v2 b := by
  obtain ⟨h0, h1, h2, h3, h4, h5, h6, q0, q1, q2, q3, q4, q5, q6, hk⟩ := hs
  have key := below_keeps hb
  exact ⟨key _ _ h0, key _ _ h1, key _ _ h2, key _ _ h3, key _ _ h4, key _ _ h5, key _ _ h6, key _ _ q0, key _ _ q1, key _ _ q2, key _ _ q3, key _ _ q4, key _ _ q5, key _ _ q6, keptB_call hk hb⟩
theorem YY_bel (hs : YY w0 g i p1 e1 s1 x1 y1 z1 v1 h o p2 e2 s2 x2 y2 z2 v2 a) : Below w0.heap.size w0 a := hs.2.2.2.2.2.2.2.2.2.2.2.2.2.2
end
theorem same_self (x : R.En) : R.same x x = true := by
  unfold R.same E.sameB
  simp

set_option maxHeartbeats 4000000 in
set_option maxRecDepth 100000 in
theorem SameRow_true (es fs : List EV) (va vb : Value) (w : World) (ha : ReadsR w va es) (hb : ReadsR w vb fs) (he : ensOf es = ensOf fs) (hl : es.length ≤ 1000) (hs : ∀ x ∈ fs, x.1.b.events.length ≤ 1000000) :
    Calls Tryz.prog 28 #[va, vb] w fun r w' => r = .returned (.bool true) ∧ Below w.heap.size w w' := by
  have hle : es.length = fs.length := by rw [← ensOf_len es, he, ensOf_len]
  have HEI : Hid (∀ i (h1 : i < es.length) (h2 : i < fs.length), es[i].1 = fs[i].1) := Lib.hid fun i h1 h2 => by
    have e1 : (ensOf es)[i]'(by rw [ensOf_len]; exact h1) = (ensOf fs)[i]'(by rw [ensOf_len]; exact h2) := by simp only [he]
    simpa using e1
  have HA := Lib.hid ha
  have HB := Lib.hid hb
  have HSM := Lib.hid hs
  obtain ⟨aa, ca, rfl, _⟩ := ha
  obtain ⟨ab, cb, rfl, _⟩ := hb
  have HLE := Lib.hid hle
  rw [hle]
  have HA2 : Hid (ReadsR w (.slice aa fs.length ca) es) := Lib.hid (by rw [← hle]; exact HA.out)
  have hfl : fs.length ≤ 1000 := by omega
  clear hs he hle HA hl
  go_enter Tryz.func28, Tryz.ntmps28
  go_wp2
  go_loopw [5] (fun i wr => ∃ k : Nat, i = .int .i64 k ∧ k ≤ fs.length ∧ Below w.heap.size w wr) (fun i _ => fs.length - (intOf i).toNat)
  case atStart => exact ⟨0, rfl, Nat.zero_le _, Below.refl _ _⟩
  case round =>
    obtain ⟨k, rfl, hk, hbe⟩ := hrel
    have HBE := Lib.hid hbe; clear hbe
    by_cases hlt : k < fs.length
    · have hk1 : (k : Int) < (fs.length : Int) := by omega
      have hlt2 : k < es.length := by rw [HLE.out]; exact hlt
      obtain ⟨a2, c2, hva, _, _, hxa⟩ := HA2.out
      obtain ⟨a3, c3, hvb, _, _, hxb⟩ := HB.out
      obtain ⟨hrea, -, b1, o1, rfl, h7a⟩ := hxa k hlt2
      obtain ⟨hreb, -, b2, o2, rfl, h7b⟩ := hxb k hlt
      injection hva with hva1 hva2 hva3
      injection hvb with hvb1 hvb2 hvb3
      subst hva1 hvb1
      have h7a2 := h7a.keep (below_keeps HBE.out)
      have h7b2 := h7b.keep (below_keeps HBE.out)
      have hei := HEI.out k hlt2 hlt
      rw [hei] at h7a2 hrea
      have HSK := Lib.hid (HSM.out _ (List.getElem_mem hlt))
      have HREA := Lib.hid hrea
      have HREB := Lib.hid hreb
      generalize es[k].2 = ua at h7a2 hrea HREA
      generalize fs[k] = pf at h7a2 h7b2 HSK HREA HREB hrea hreb
      obtain ⟨⟨pos, ep, ⟨st, ex, se, sq, evs⟩⟩, ub⟩ := pf
      dsimp only at h7a2 h7b2 HSK HREA HREB hrea hreb
      obtain ⟨qa, qc, rfl, _⟩ := hrea
      obtain ⟨qb, qd, rfl, _⟩ := hreb
      have hYY : YY w b1 (o1 + k * 7) pos ep st ex se sq (.slice qa evs.length qc) b2 (o2 + k * 7) pos ep st ex se sq (.slice qb evs.length qd) wr := by
        obtain ⟨h0, h1, h2, h3, h4, h5, h6⟩ := h7a2
        obtain ⟨q0, q1, q2, q3, q4, q5, q6⟩ := h7b2
        exact ⟨h0, h1, h2, h3, h4, h5, h6, q0, q1, q2, q3, q4, q5, q6, HBE.out⟩
      have HQ := Lib.hid (same_self ⟨pos, ep, ⟨st, ex, se, sq, evs⟩⟩)
      clear h7a h7b h7a2 h7b2 hxa hxb hei hva2 hva3 hvb2 hvb3
      go_wp2
      go_region_held3 (fun w' => YY w b1 (o1 + k * 7) pos ep st ex se sq (.slice qa evs.length qc) b2 (o2 + k * 7) pos ep st ex se sq (.slice qb evs.length qd) w')
        (first | assumption | exact YY_drew (by assumption) | exact YY_call (by assumption) (by assumption))
        (first
          | (go_at_call 71; with_reducible refine (refSame_at ⟨pos, ep, ⟨st, ex, se, sq, evs⟩⟩ ⟨pos, ep, ⟨st, ex, se, sq, evs⟩⟩ _ _ true _ (readsE_below HREA.out (YY_bel (by assumption))) (readsE_below HREB.out (YY_bel (by assumption))) HSK.out HQ).mono ?_; rintro x w5 ⟨rfl, hb5⟩)
          | fail)
      rename_i hHeld
      have HN := Lib.hid (YY_bel hHeld)
      clear hHeld hYY
      go_wp2
      go_roundw
      case rel => exact ⟨k + 1, by go_num, by omega, HN.out⟩
      case measure => simp [intOf]; omega
    · have hki : ¬ (k : Int) < (fs.length : Int) := by omega
      go_wp2
      go_ret
      exact ⟨rfl, HBE.out⟩
end Go.Proofs.YtpdnbpihkiijkaaGreatDoor
