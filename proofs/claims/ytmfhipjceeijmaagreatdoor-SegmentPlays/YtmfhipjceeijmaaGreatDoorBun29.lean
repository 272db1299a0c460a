/-
  Own texts, joined: RecordPut RecordTake EventRefTake EventRefTake2 RecordSame RecordSame2 RecordSameRow
-/
import Derived.Test.YtmfhipjceeijmaaGreatDoorBun27
import Derived.Test.YtmfhipjceeijmaaGreatDoorBun23
import Derived.Test.YtmfhipjceeijmaaGreatDoorBun9
import Derived.Deep.AppendLies
import Derived.Maps.AppendAt
import Derived.Deep.RegionLaw

/-
  Walks of Put and PutRow, of package record and of the document's answer.
-/
namespace Go.Proofs.YtmfhipjceeijmaaGreatDoor
open Go.RowKit
attribute [local go_sem] ext_Bd ext_Bl ext_Bt toList_B add_B size_B get_Bt

/-- An entry in a box, as calls leave it. -/
abbrev X7 (w0 : World) (g : Nat) (pos ep : Int) (st : List UInt8) (ex se sq : Int) (v : Value) (a : World) : Prop :=
  a.cell? ⟨g, 0, none⟩ = some (.int .i64 pos) ∧ a.cell? ⟨g, 1, none⟩ = some (.int .i64 ep) ∧ a.cell? ⟨g, 2, none⟩ = some (.string (B st)) ∧ a.cell? ⟨g, 3, none⟩ = some (.int .i64 ex) ∧ a.cell? ⟨g, 4, none⟩ = some (.int .i64 se) ∧ a.cell? ⟨g, 5, none⟩ = some (.int .i64 sq) ∧ a.cell? ⟨g, 6, none⟩ = some v ∧ KeptB w0 a
section
variable {w0 a b : World} {g : Nat} {pos ep : Int} {st : List UInt8} {ex se sq : Int} {v : Value}
theorem X7_drew (h : X7 w0 g pos ep st ex se sq v a) : X7 w0 g pos ep st ex se sq v a.drew := by
  obtain ⟨h0, h1, h2, h3, h4, h5, h6, hk⟩ := h
  exact ⟨h0, h1, h2, h3, h4, h5, h6, keptB_drew hk⟩
theorem X7_call (h : X7 w0 g pos ep st ex se sq v a) (hb : Below a.heap.size a b) : X7 w0 g pos ep st ex se sq v b := by
  obtain ⟨h0, h1, h2, h3, h4, h5, h6, hk⟩ := h
  have key := below_keeps hb
  exact ⟨key _ _ h0, key _ _ h1, key _ _ h2, key _ _ h3, key _ _ h4, key _ _ h5, key _ _ h6, keptB_call hk hb⟩
theorem X7_bel (h : X7 w0 g pos ep st ex se sq v a) : Below w0.heap.size w0 a := h.2.2.2.2.2.2.2
theorem X7_box {w w1 : World} {t : TypeId} (hb : Below (w.alloc (.cells #[.int .i64 pos, .int .i64 ep, .string (B st), .int .i64 ex, .int .i64 se, .int .i64 sq, v] t)).heap.size (w.alloc (.cells #[.int .i64 pos, .int .i64 ep, .string (B st), .int .i64 ex, .int .i64 se, .int .i64 sq, v] t)) w1) : X7 w w.heap.size pos ep st ex se sq v w1 :=
  ⟨by rw [box_at hb]; rfl, by rw [box_at hb]; rfl, by rw [box_at hb]; rfl, by rw [box_at hb]; rfl, by rw [box_at hb]; rfl, by rw [box_at hb]; rfl, by rw [box_at hb]; rfl, below_box hb⟩
end

set_option maxHeartbeats 2000000 in
set_option maxRecDepth 100000 in
theorem bytesOf_at (e : R.En) (v : Value) (s : List UInt8) (w : World) (hv : ReadsE w v e.b.events) (hs : E.Small e.b) (hr : R.right e = true) (H : Hid (R.bytes e = s)) :
    Calls Tryz.prog 119 #[enV e v] w fun x w' => x = .returned (.string (B s)) ∧ Below w.heap.size w w' := by
  have hfit := (R.right_iff.1 hr).2.2.2.2
  obtain ⟨pos, ep, ⟨st, ex, se, sq, evs⟩⟩ := e
  dsimp only at hv hs hfit ⊢
  obtain ⟨a1, H1⟩ : ∃ a, Hid (N.putL (N.held pos) = a) := ⟨_, Lib.hid rfl⟩
  obtain ⟨a2, H2⟩ : ∃ a, Hid (N.putL (N.held ep) = a) := ⟨_, Lib.hid rfl⟩
  obtain ⟨a3, H3⟩ : ∃ a, Hid (E.putBat ⟨st, ex, se, sq, evs⟩ = a) := ⟨_, Lib.hid rfl⟩
  have l1 : a1.length ≤ 6 := by have := N.putL_len6 (N.held_le pos); rw [H1.out] at this; exact this
  have l2 : a2.length ≤ 6 := by have := N.putL_len6 (N.held_le ep); rw [H2.out] at this; exact this
  have l3 : a3.length ≤ 20000 := by have := E.bytes_len hfit; rw [← E.putBat_ok hfit, H3.out] at this; exact this
  have HE : Hid (s = a1 ++ (a2 ++ a3)) := Lib.hid (by rw [← H.out]; unfold R.bytes; rw [H1.out, H2.out, ← H3.out, E.putBat_ok hfit])
  have k1 := cat_run (a := a1) (c := a2) (by omega)
  have k2 := cat_run (a := a1 ++ a2) (c := a3) (by simp only [List.length_append]; omega)
  simp only [List.append_assoc] at k1 k2
  have HV := Lib.hid hv
  have HS := Lib.hid hs
  obtain ⟨a, cap, rfl, _⟩ := hv
  clear hs H hr hfit
  go_enter Tryz.func119, Tryz.ntmps119
  go_wp2
  have hS : X7 w w.heap.size pos ep st ex se sq (.slice a evs.length cap) (w.alloc (.cells #[.int .i64 pos, .int .i64 ep, .string (B st), .int .i64 ex, .int .i64 se, .int .i64 sq, .slice a evs.length cap] 53)) := X7_box (Below.refl _ _)
  generalize w.alloc (.cells #[.int .i64 pos, .int .i64 ep, .string (B st), .int .i64 ex, .int .i64 se, .int .i64 sq, .slice a evs.length cap] 53) = w1 at *
  go_region_held3 (fun w' => X7 w w.heap.size pos ep st ex se sq (.slice a evs.length cap) w')
    (first | assumption | exact X7_drew (by assumption) | exact X7_call (by assumption) (by assumption))
    (first
      | (go_at_call 84; with_reducible refine (Put_any_at pos a1 _ H1).mono ?_; rintro x w4 ⟨rfl, hb4⟩)
      | (go_at_call 84; with_reducible refine (Put_any_at ep a2 _ H2).mono ?_; rintro x w5 ⟨rfl, hb5⟩)
      | (go_at_call 146; with_reducible refine (EPutBat_at ⟨st, ex, se, sq, evs⟩ _ a3 _ (readsE_below HV.out (X7_bel (by assumption))) HS.out H3).mono ?_; rintro x w6 ⟨rfl, hb6⟩)
      | fail)
  rename_i hHeld
  have HB := Lib.hid (X7_bel hHeld)
  clear hHeld hS k1 k2
  go_wp2
  go_ret
  rw [HE.out]
  exact ⟨rfl, HB.out⟩

set_option maxHeartbeats 1000000 in
set_option maxRecDepth 100000 in
theorem Put6_at (e : R.En) (v : Value) (s : List UInt8) (w : World) (hv : ReadsE w v e.b.events) (hs : E.Small e.b) (H : Hid (R.putEn e = s)) :
    Calls Tryz.prog 87 #[enV e v] w fun x w' => x = .returned (.string (B s)) ∧ Below w.heap.size w w' := by
  obtain ⟨r, HR⟩ : ∃ r, Hid (R.right e = r) := ⟨_, Lib.hid rfl⟩
  have HV := Lib.hid hv
  have HS := Lib.hid hs
  obtain ⟨a, cap, rfl, _⟩ := hv
  clear hs
  go_enter Tryz.func87, Tryz.ntmps87
  go_wp2_with fail
  refine (Right6_at e _ r _ (readsE_below HV.out ((Below.refl _ w).alloc (Nat.le_refl _) _)) HS.out HR).mono ?_
  rintro x w1 ⟨rfl, hb1⟩
  obtain ⟨c0, c1, c2, c3, c4, c5, c6, hk⟩ := X7_box hb1
  have HB := Lib.hid (below_box hb1)
  clear hb1 hk
  cases r
  · have HE := Lib.hid (show s = [] by rw [← H.out]; exact R.putEn_bad HR.out)
    go_wp2
    go_ret
    rw [HE.out]
    exact ⟨rfl, HB.out⟩
  · have HE : Hid (R.bytes e = s) := Lib.hid (by rw [← H.out]; exact (R.putEn_ok HR.out).symm)
    go_wp2_with fail
    refine (bytesOf_at e _ s w1 (readsE_below HV.out HB.out) HS.out HR.out HE).mono ?_
    rintro x w2 ⟨rfl, hb2⟩
    have HB2 := Lib.hid (HB.out.trans (hb2.mono HB.out.size))
    clear hb2
    go_wp2
    go_ret
    exact ⟨rfl, HB2.out⟩

set_option maxHeartbeats 2000000 in
set_option maxRecDepth 100000 in
theorem refPut6_at (e : R.En) (v : Value) (s : List UInt8) (w : World) (hv : ReadsE w v e.b.events) (hs : E.Tiny e.b) (H : Hid (R.putEn e = s)) :
    Calls Tryz.prog 81 #[enV e v] w fun x w' => x = .returned (.string (B s)) ∧ Below w.heap.size w w' := by
  obtain ⟨r, HR⟩ : ∃ r, Hid (R.right e = r) := ⟨_, Lib.hid rfl⟩
  have HV := Lib.hid hv
  have HS := Lib.hid hs
  obtain ⟨a, cap, rfl, _⟩ := hv
  clear hs
  obtain ⟨pos, ep, ⟨st, ex, se, sq, evs⟩⟩ := e
  dsimp only at HV HS ⊢
  go_enter Tryz.func81, Tryz.ntmps81
  go_wp2_with fail
  refine (refRight6_at ⟨pos, ep, ⟨st, ex, se, sq, evs⟩⟩ _ r _ (readsE_below HV.out ((Below.refl _ w).alloc (Nat.le_refl _) _)) HS.out HR).mono ?_
  rintro x w1 ⟨rfl, hb1⟩
  have hS : X7 w w.heap.size pos ep st ex se sq (.slice a evs.length cap) w1 := X7_box hb1
  have HB := Lib.hid (below_box hb1)
  clear hb1
  cases r
  · have HE := Lib.hid (show s = [] by rw [← H.out]; exact R.putEn_bad HR.out)
    go_wp2
    go_ret
    rw [HE.out]
    exact ⟨rfl, HB.out⟩
  · have hfit : E.fits ⟨st, ex, se, sq, evs⟩ = 0 := (R.right_iff.1 HR.out).2.2.2.2
    obtain ⟨a1, H1⟩ : ∃ a, Hid (N.putL (N.held pos) = a) := ⟨_, Lib.hid rfl⟩
    obtain ⟨a2, H2⟩ : ∃ a, Hid (N.putL (N.held ep) = a) := ⟨_, Lib.hid rfl⟩
    obtain ⟨a3, H3⟩ : ∃ a, Hid (E.bytes ⟨st, ex, se, sq, evs⟩ = a) := ⟨_, Lib.hid rfl⟩
    have l1 : a1.length ≤ 6 := by have := N.putL_len6 (N.held_le pos); rw [H1.out] at this; exact this
    have l2 : a2.length ≤ 6 := by have := N.putL_len6 (N.held_le ep); rw [H2.out] at this; exact this
    have l3 : a3.length ≤ 20000 := by have := E.bytes_len hfit; rw [H3.out] at this; exact this
    have HE : Hid (s = a1 ++ (a2 ++ a3)) := Lib.hid (by rw [← H.out, R.putEn_ok HR.out]; unfold R.bytes; rw [H1.out, H2.out, H3.out])
    have k1 := cat_run (a := a1) (c := a2) (by omega)
    have k2 := cat_run (a := a1 ++ a2) (c := a3) (by simp only [List.length_append]; omega)
    simp only [List.append_assoc] at k1 k2
    have HPB : Hid (∀ w', X7 w w.heap.size pos ep st ex se sq (.slice a evs.length cap) w' → Calls Tryz.prog 113 #[batV ⟨st, ex, se, sq, evs⟩ (.slice a evs.length cap)] w' fun r w'' => r = .returned (.string (B a3)) ∧ Below w'.heap.size w' w'') := Lib.hid fun w' h => by
      rw [← H3.out]; exact refPutBat_ok ⟨st, ex, se, sq, evs⟩ _ w' (readsE_below HV.out (X7_bel h)) hfit
    clear hfit H
    go_wp2
    go_region_held3 (fun w' => X7 w w.heap.size pos ep st ex se sq (.slice a evs.length cap) w')
      (first | assumption | exact X7_drew (by assumption) | exact X7_call (by assumption) (by assumption))
      (first
        | (go_at_call 80; with_reducible refine (refNPut_at pos a1 _ H1).mono ?_; rintro x w4 ⟨rfl, hb4⟩)
        | (go_at_call 80; with_reducible refine (refNPut_at ep a2 _ H2).mono ?_; rintro x w5 ⟨rfl, hb5⟩)
        | (go_at_call 113; with_reducible refine (HPB.out _ (by assumption)).mono ?_; rintro x w6 ⟨rfl, hb6⟩)
        | fail)
    rename_i hHeld
    have HB2 := Lib.hid (X7_bel hHeld)
    clear hHeld hS k1 k2
    go_wp2
    go_ret
    rw [HE.out]
    exact ⟨rfl, HB2.out⟩
end Go.Proofs.YtmfhipjceeijmaaGreatDoor

/-
  Walk of package record: Take, of bytes of a right entry.
-/
namespace Go.Proofs.YtmfhipjceeijmaaGreatDoor
open Go.RowKit
attribute [local go_sem] ext_Bd ext_Bl ext_Bt toList_B add_B size_B get_Bt

theorem set_seven {w : World} {g : Nat} {x0 x1 x2 x3 x4 x5 x6 a0 a1 a2 a3 a4 a5 a6 : Value} {t : TypeId} (h : w.heap[g]? = some (.cells #[x0, x1, x2, x3, x4, x5, x6] t (0, 0))) :
    (((((((w.setCell ⟨g, 0, none⟩ a0).setCell ⟨g, 1, none⟩ a1).setCell ⟨g, 2, none⟩ a2).setCell ⟨g, 3, none⟩ a3).setCell ⟨g, 4, none⟩ a4).setCell ⟨g, 5, none⟩ a5).setCell ⟨g, 6, none⟩ a6).heap[g]? = some (.cells #[a0, a1, a2, a3, a4, a5, a6] t (0, 0)) := by
  have h0 : (w.setCell ⟨g, 0, none⟩ a0).heap[g]? = some (.cells #[a0, x1, x2, x3, x4, x5, x6] t (0, 0)) := set_block h 0 a0
  have h1 : ((w.setCell ⟨g, 0, none⟩ a0).setCell ⟨g, 1, none⟩ a1).heap[g]? = some (.cells #[a0, a1, x2, x3, x4, x5, x6] t (0, 0)) := set_block h0 1 a1
  generalize (w.setCell ⟨g, 0, none⟩ a0).setCell ⟨g, 1, none⟩ a1 = w1 at h1 ⊢
  have h2 : (w1.setCell ⟨g, 2, none⟩ a2).heap[g]? = some (.cells #[a0, a1, a2, x3, x4, x5, x6] t (0, 0)) := set_block h1 2 a2
  generalize w1.setCell ⟨g, 2, none⟩ a2 = w2 at h2 ⊢
  have h3 : (w2.setCell ⟨g, 3, none⟩ a3).heap[g]? = some (.cells #[a0, a1, a2, a3, x4, x5, x6] t (0, 0)) := set_block h2 3 a3
  generalize w2.setCell ⟨g, 3, none⟩ a3 = w3 at h3 ⊢
  have h4 : (w3.setCell ⟨g, 4, none⟩ a4).heap[g]? = some (.cells #[a0, a1, a2, a3, a4, x5, x6] t (0, 0)) := set_block h3 4 a4
  generalize w3.setCell ⟨g, 4, none⟩ a4 = w4 at h4 ⊢
  have h5 : (w4.setCell ⟨g, 5, none⟩ a5).heap[g]? = some (.cells #[a0, a1, a2, a3, a4, a5, x6] t (0, 0)) := set_block h4 5 a5
  generalize w4.setCell ⟨g, 5, none⟩ a5 = w5 at h5 ⊢
  exact set_block h5 6 a6
theorem below_seven {w w' : World} {g : Nat} (h : Below w.heap.size w w') (hg : w.heap.size ≤ g) (a0 a1 a2 a3 a4 a5 a6 : Value) :
    Below w.heap.size w (((((((w'.setCell ⟨g, 0, none⟩ a0).setCell ⟨g, 1, none⟩ a1).setCell ⟨g, 2, none⟩ a2).setCell ⟨g, 3, none⟩ a3).setCell ⟨g, 4, none⟩ a4).setCell ⟨g, 5, none⟩ a5).setCell ⟨g, 6, none⟩ a6) :=
  ((((((h.setCell (p := ⟨g, 0, none⟩) hg a0).setCell (p := ⟨g, 1, none⟩) hg a1).setCell (p := ⟨g, 2, none⟩) hg a2).setCell (p := ⟨g, 3, none⟩) hg a3).setCell (p := ⟨g, 4, none⟩) hg a4).setCell (p := ⟨g, 5, none⟩) hg a5).setCell (p := ⟨g, 6, none⟩) hg a6
theorem keep_seven {w' : World} {g k : Nat} (hk : k ≠ g) (a0 a1 a2 a3 a4 a5 a6 : Value) :
    (((((((w'.setCell ⟨g, 0, none⟩ a0).setCell ⟨g, 1, none⟩ a1).setCell ⟨g, 2, none⟩ a2).setCell ⟨g, 3, none⟩ a3).setCell ⟨g, 4, none⟩ a4).setCell ⟨g, 5, none⟩ a5).setCell ⟨g, 6, none⟩ a6).heap[k]? = w'.heap[k]? := by
  rw [Below.heap_setCell _ _ _ _ hk, Below.heap_setCell _ _ _ _ hk, Below.heap_setCell _ _ _ _ hk, Below.heap_setCell _ _ _ _ hk, Below.heap_setCell _ _ _ _ hk, Below.heap_setCell _ _ _ _ hk, Below.heap_setCell _ _ _ _ hk]

abbrev zeroEn : Obj := .cells #[.int .i64 0, .int .i64 0, .string ⟨#[]⟩, .int .i64 0, .int .i64 0, .int .i64 0, .slice none 0 0] 53 (0, 0)
theorem own_zero {w w' : World} {g base : Nat} {v : Value} {n : Nat} {xs : List Value} (h : w.ownsRow base 92 2 v n xs) (hg : w.heap[g]? = some zeroEn) (hk : ∀ k, k ≠ g → w'.heap[k]? = w.heap[k]?) : w'.ownsRow base 92 2 v n xs := by
  refine ⟨h.1, ?_⟩
  rcases h.2 with hn | ⟨g2, cap, cur, rfl, hb, hh, rest⟩
  · exact .inl hn
  · have hne : g2 ≠ g := fun e => by
      subst e
      rw [hh] at hg
      cases hg
    exact .inr ⟨g2, cap, cur, rfl, hb, (hk g2 hne).trans hh, rest⟩

set_option maxHeartbeats 4000000 in
set_option maxRecDepth 100000 in
theorem Take6_ok (e : R.En) (s r : List UInt8) (w : World) (hr : R.right e = true) (hs : E.Small e.b) (HS : Hid (s = R.bytes e ++ r)) (hl : s.length ≤ 1000000) :
    Calls Tryz.prog 104 #[.string (B s)] w fun x w' => ∃ v, x = .returned (.tuple #[enV e v, .string (B r), .int .i64 0]) ∧ w'.ownsRow w.heap.size 92 2 v e.b.events.length (evCells e.b.events) ∧ Below w.heap.size w w' := by
  obtain ⟨h1, h2, h3, h4, hfit⟩ := R.right_iff.1 hr
  have hlg : R.large = 274877906944 := rfl
  have HRT := Lib.hid hr
  obtain ⟨pos, ep, ⟨st, ex, se, sq, evs⟩⟩ := e
  dsimp only at h1 h2 h3 h4 hfit hs
  obtain ⟨pn, rfl⟩ : ∃ n : Nat, pos = n := ⟨pos.toNat, by omega⟩
  obtain ⟨en, rfl⟩ : ∃ n : Nat, ep = n := ⟨ep.toNat, by omega⟩
  have e1 : s = N.putL pn ++ (N.putL en ++ (E.bytes ⟨st, ex, se, sq, evs⟩ ++ r)) := by
    rw [HS.out]; unfold R.bytes
    dsimp only
    rw [show N.held (pn : Int) = pn by unfold N.held; omega, show N.held (en : Int) = en by unfold N.held; omega, List.append_assoc, List.append_assoc]
  obtain ⟨s2, HS2⟩ : ∃ s2, Hid (E.bytes ⟨st, ex, se, sq, evs⟩ ++ r = s2) := ⟨_, Lib.hid rfl⟩
  obtain ⟨s1, HS1⟩ : ∃ s1, Hid (N.putL en ++ s2 = s1) := ⟨_, Lib.hid rfl⟩
  rw [HS2.out, HS1.out] at e1
  have hl2 : s2.length ≤ s1.length := by rw [← HS1.out, List.length_append]; omega
  have hl1 : s1.length ≤ s.length := by rw [e1, List.length_append]; omega
  have HT1 : Hid (N.takeL s = Sum.inl (pn, s1)) := Lib.hid (by rw [e1]; exact N.take_put (by omega) _)
  have HT2 : Hid (N.takeL s1 = Sum.inl (en, s2)) := Lib.hid (by rw [← HS1.out]; exact N.take_put (by omega) _)
  have HT3 : Hid (batRes (E.takeBat s2) = (⟨st, ex, se, sq, evs⟩, r, 0)) := Lib.hid (by rw [← HS2.out, E.batC.back _ r (E.bat_ok hfit)]; rfl)
  have HSM := Lib.hid hs
  clear e1 HS HS1 HS2 hr hs hfit hlg
  have HA0 : Hid ((w.alloc (.cells #[.int .i64 0, .int .i64 0, .string ⟨#[]⟩, .int .i64 0, .int .i64 0, .int .i64 0, .slice none 0 0] 53)).heap[w.heap.size]? = some (.cells #[.int .i64 0, .int .i64 0, .string ⟨#[]⟩, .int .i64 0, .int .i64 0, .int .i64 0, .slice none 0 0] 53 (0, 0))) := Lib.hid (heap_alloc_new w _)
  have HB0 : Hid (Below w.heap.size w (w.alloc (.cells #[.int .i64 0, .int .i64 0, .string ⟨#[]⟩, .int .i64 0, .int .i64 0, .int .i64 0, .slice none 0 0] 53))) := Lib.hid ((Below.refl _ w).alloc (Nat.le_refl _) _)
  go_enter Tryz.func104, Tryz.ntmps104
  go_wp2_with fail
  generalize w.alloc (.cells #[.int .i64 0, .int .i64 0, .string ⟨#[]⟩, .int .i64 0, .int .i64 0, .int .i64 0, .slice none 0 0] 53) = W at HA0 HB0 ⊢
  refine (Take_l s W (by omega)).mono ?_
  rintro x w1 ⟨rfl, n1, rfl⟩
  rw [HT1.out, show tkRes (Sum.inl (pn, s1)) = _ from tkRes_ok pn s1]
  go_wp2_with fail
  refine (Take_l s1 _ (by omega)).mono ?_
  rintro x w1 ⟨rfl, n2, rfl⟩
  rw [HT2.out, show tkRes (Sum.inl (en, s2)) = _ from tkRes_ok en s2]
  go_wp2_with fail
  refine (ETakeBat_own s2 ⟨st, ex, se, sq, evs⟩ r _ (by omega) HT3).mono ?_
  rintro x w2 ⟨u, rfl, how2, hb2⟩
  have hre2 := readsE_own how2
  have HOW2 := Lib.hid (own_base5 (b := w.heap.size) how2 HB0.out.size)
  clear how2
  have hb2' : Below W.heap.size W w2 := ⟨hb2.os, hb2.tape, hb2.output, hb2.size, hb2.block⟩
  have HA2 := Lib.hid (block_below HA0.out hb2')
  have HB2 := Lib.hid (HB0.out.trans (hb2'.mono HB0.out.size))
  have HRE2 := Lib.hid hre2
  have hwl := lt_of_block HA2.out
  obtain ⟨ua, uc, rfl, _⟩ := hre2
  dsimp only [batV]
  clear hb2 hb2' HA0 HB0 HT1 HT2 HT3
  have HAL : Hid (∀ o1 o2, Below w2.heap.size w2 ((w2.alloc o1).alloc o2)) := Lib.hid fun o1 o2 => ((Below.refl _ w2).alloc (Nat.le_refl _) o1).alloc (by simp) o2
  go_wp2_with fail
  refine (Right6_at ⟨pn, en, ⟨st, ex, se, sq, evs⟩⟩ _ true _ (readsE_below HRE2.out (HAL.out _ _)) HSM.out HRT).mono ?_
  rintro x w3 ⟨rfl, hb3⟩
  have hx7 := X7_box hb3
  rw [World.size_alloc] at hx7
  obtain ⟨c0, c1, c2, c3, c4, c5, c6, -⟩ := hx7
  have hb23 : Below w2.heap.size w2 w3 := (HAL.out _ _).trans (hb3.mono (HAL.out _ _).size)
  have HA3 := Lib.hid (block_below HA2.out hb23)
  have HB3 := Lib.hid (HB2.out.trans (hb23.mono HB2.out.size))
  have HRE3 := Lib.hid (own_below5 HOW2.out hb23)
  clear hb3 hb23 HAL HA2 HB2 HRE2 HOW2
  have a0 := block_cell HA3.out 0
  have a1 := block_cell HA3.out 1
  have a2 := block_cell HA3.out 2
  have a3 := block_cell HA3.out 3
  have a4 := block_cell HA3.out 4
  have a5 := block_cell HA3.out 5
  have a6 := block_cell HA3.out 6
  simp only [List.getElem?_toArray, List.getElem?_cons_zero, List.getElem?_cons_succ] at a0 a1 a2 a3 a4 a5 a6
  have l0 := block_loose HA3.out 0
  have l1 := block_loose HA3.out 1
  have l2 := block_loose HA3.out 2
  have l3 := block_loose HA3.out 3
  have l4 := block_loose HA3.out 4
  have l5 := block_loose HA3.out 5
  have l6 := block_loose HA3.out 6
  go_wp2
  have HK := Lib.hid (set_seven (a0 := .int .i64 pn) (a1 := .int .i64 en) (a2 := .string (B st)) (a3 := .int .i64 ex) (a4 := .int .i64 se) (a5 := .int .i64 sq) (a6 := .slice ua evs.length uc) HA3.out)
  have HB9 := Lib.hid (below_seven HB3.out (Nat.le_refl _) (.int .i64 pn) (.int .i64 en) (.string (B st)) (.int .i64 ex) (.int .i64 se) (.int .i64 sq) (.slice ua evs.length uc))
  have HR9 := Lib.hid (own_zero HRE3.out HA3.out (fun k hk => keep_seven hk (.int .i64 pn) (.int .i64 en) (.string (B st)) (.int .i64 ex) (.int .i64 se) (.int .i64 sq) (.slice ua evs.length uc)))
  generalize ((((((w3.setCell ⟨w.heap.size, 0, none⟩ (.int .i64 pn)).setCell ⟨w.heap.size, 1, none⟩ (.int .i64 en)).setCell ⟨w.heap.size, 2, none⟩ (.string (B st))).setCell ⟨w.heap.size, 3, none⟩ (.int .i64 ex)).setCell ⟨w.heap.size, 4, none⟩ (.int .i64 se)).setCell ⟨w.heap.size, 5, none⟩ (.int .i64 sq)).setCell ⟨w.heap.size, 6, none⟩ (.slice ua evs.length uc) = w9 at HK HB9 HR9 ⊢
  have k0 := block_cell HK.out 0
  have k1 := block_cell HK.out 1
  have k2 := block_cell HK.out 2
  have k3 := block_cell HK.out 3
  have k4 := block_cell HK.out 4
  have k5 := block_cell HK.out 5
  have k6 := block_cell HK.out 6
  simp only [List.getElem?_toArray, List.getElem?_cons_zero, List.getElem?_cons_succ] at k0 k1 k2 k3 k4 k5 k6
  exact bodyPost_ret (v := .tuple #[enV ⟨pn, en, ⟨st, ex, se, sq, evs⟩⟩ (.slice ua evs.length uc), .string (B r), .int .i64 0]) (by simp [results, Tryz.results104, go_sem, k0, k1, k2, k3, k4, k5, k6]) rfl ⟨_, rfl, HR9.out, HB9.out⟩
end Go.Proofs.YtmfhipjceeijmaaGreatDoor

/-
  The document's answer to event.TakeBatch: an event's two parts, walked.
-/
namespace Go.Proofs.YtmfhipjceeijmaaGreatDoor
open Go.RowKit
attribute [local go_sem] ext_Bd ext_Bl ext_Bt toList_B add_B size_B get_Bt

theorem below_ofq {w w' : World} (h : sQuiet w w') : Below w.heap.size w w' := below_quiet (Below.refl _ w) h

set_option maxHeartbeats 4000000 in
set_option maxRecDepth 100000 in
theorem refParts_at (s : List UInt8) (e : E.Ev) (r : List UInt8) (c : Nat) (w : World) (hs : s.length ≤ 1000000) (H : Hid (evRes (E.parts s) = (e, r, c))) :
    Calls Tryz.prog 111 #[.string (B s)] w fun x w' => x = .returned (.tuple #[evV e, .string (B r), .int .i64 c]) ∧ Below w.heap.size w w' := by
  have hA : (w.alloc (.cells #[.string (B []), .string (B [])] 92)).heap[w.heap.size]? = some (.cells #[.string (B []), .string (B [])] 92) := World.alloc_heap_new w _
  have hB : Below w.heap.size w (w.alloc (.cells #[.string (B []), .string (B [])] 92)) := (Below.refl _ w).alloc (Nat.le_refl _) _
  have HA := Lib.hid hA
  have HB := Lib.hid hB
  clear hA hB
  rcases K.cases (N.takeT s 200) with ⟨k, h1⟩ | ⟨a, q, h1⟩
  · have hev := H.out
    rw [parts_bad1 h1] at hev
    cases hev
    have hpos := K.txt_errs _ _ _ h1
    have hci : ((c : Int) == 0) = false := beq_eq_false_iff_ne.2 (by omega)
    have hcn : ¬ c = 0 := by omega
    have HT := Lib.hid h1
    clear h1 H
    go_enter Tryz.func111, Tryz.ntmps111
    go_wp2_with fail
    refine (refTakeText_l s 200 _ (by omega)).mono ?_
    rintro x w1 ⟨rfl, hq⟩
    have HA1 := Lib.hid (block_below HA.out (below_ofq hq))
    have HB1 := Lib.hid (below_quiet HB.out hq)
    clear HA HB hq
    rw [HT.out, show ttRes (Sum.inr c) = _ from ttRes_bad c]
    have a0 := block_cell HA1.out 0
    have a1 := block_cell HA1.out 1
    simp at a0 a1
    have l0 := block_loose HA1.out 0
    have l1 := block_loose HA1.out 1
    go_wp2
    have HK := Lib.hid (set_two (a := .string ⟨#[]⟩) (b := .string ⟨#[]⟩) HA1.out)
    have HB3 := Lib.hid ((HB1.out.setCell (p := ⟨w.heap.size, 0, none⟩) (Nat.le_refl _) (.string ⟨#[]⟩)).setCell (p := ⟨w.heap.size, 1, none⟩) (Nat.le_refl _) (.string ⟨#[]⟩))
    generalize (w1.setCell ⟨w.heap.size, 0, none⟩ (.string ⟨#[]⟩)).setCell ⟨w.heap.size, 1, none⟩ (.string ⟨#[]⟩) = w9 at *
    obtain ⟨k0, k1⟩ := HK.out
    exact bodyPost_ret (v := .tuple #[evV ([], []), .string (B []), .int .i64 c]) (by simp [results, Tryz.results111, go_sem, k0, k1]; rfl) rfl ⟨rfl, HB3.out⟩
  · have hql := takeT_len h1
    rcases K.cases (N.takeT q 200) with ⟨k, h2⟩ | ⟨b, t, h2⟩
    · have hev := H.out
      rw [parts_bad2 h1 h2] at hev
      cases hev
      have hpos := K.txt_errs _ _ _ h2
      have hci : ((c : Int) == 0) = false := beq_eq_false_iff_ne.2 (by omega)
      have hcn : ¬ c = 0 := by omega
      have HT := Lib.hid h1
      have HT2 := Lib.hid h2
      clear h1 h2 H
      go_enter Tryz.func111, Tryz.ntmps111
      go_wp2_with fail
      refine (refTakeText_l s 200 _ (by omega)).mono ?_
      rintro x w1 ⟨rfl, hq⟩
      have HA1 := Lib.hid (block_below HA.out (below_ofq hq))
      have HB1 := Lib.hid (below_quiet HB.out hq)
      clear HA HB hq
      rw [HT.out, show ttRes (Sum.inl (a, q)) = _ from ttRes_ok a q]
      go_wp2_with fail
      refine (refTakeText_l q 200 _ (by omega)).mono ?_
      rintro x w2 ⟨rfl, hq⟩
      have HA2 := Lib.hid (block_below HA1.out (below_ofq hq))
      have HB2 := Lib.hid (below_quiet HB1.out hq)
      clear HA1 HB1 hq
      rw [HT2.out, show ttRes (Sum.inr c) = _ from ttRes_bad c]
      have a0 := block_cell HA2.out 0
      have a1 := block_cell HA2.out 1
      simp at a0 a1
      have l0 := block_loose HA2.out 0
      have l1 := block_loose HA2.out 1
      go_wp2
      have HK := Lib.hid (set_two (a := .string ⟨#[]⟩) (b := .string ⟨#[]⟩) HA2.out)
      have HB3 := Lib.hid ((HB2.out.setCell (p := ⟨w.heap.size, 0, none⟩) (Nat.le_refl _) (.string ⟨#[]⟩)).setCell (p := ⟨w.heap.size, 1, none⟩) (Nat.le_refl _) (.string ⟨#[]⟩))
      generalize (w2.setCell ⟨w.heap.size, 0, none⟩ (.string ⟨#[]⟩)).setCell ⟨w.heap.size, 1, none⟩ (.string ⟨#[]⟩) = w9 at *
      obtain ⟨k0, k1⟩ := HK.out
      exact bodyPost_ret (v := .tuple #[evV ([], []), .string (B []), .int .i64 c]) (by simp [results, Tryz.results111, go_sem, k0, k1]; rfl) rfl ⟨rfl, HB3.out⟩
    · have hev := H.out
      rw [parts_ok h1 h2] at hev
      cases hev
      have HT := Lib.hid h1
      have HT2 := Lib.hid h2
      clear h1 h2 H
      go_enter Tryz.func111, Tryz.ntmps111
      go_wp2_with fail
      refine (refTakeText_l s 200 _ (by omega)).mono ?_
      rintro x w1 ⟨rfl, hq⟩
      have HA1 := Lib.hid (block_below HA.out (below_ofq hq))
      have HB1 := Lib.hid (below_quiet HB.out hq)
      clear HA HB hq
      rw [HT.out, show ttRes (Sum.inl (a, q)) = _ from ttRes_ok a q]
      go_wp2_with fail
      refine (refTakeText_l q 200 _ (by omega)).mono ?_
      rintro x w2 ⟨rfl, hq⟩
      have HA2 := Lib.hid (block_below HA1.out (below_ofq hq))
      have HB2 := Lib.hid (below_quiet HB1.out hq)
      clear HA1 HB1 hq
      rw [HT2.out, show ttRes (Sum.inl (b, r)) = _ from ttRes_ok b r]
      have a0 := block_cell HA2.out 0
      have a1 := block_cell HA2.out 1
      simp at a0 a1
      have l0 := block_loose HA2.out 0
      have l1 := block_loose HA2.out 1
      go_wp2
      have HK := Lib.hid (set_two (a := .string (B a)) (b := .string (B b)) HA2.out)
      have HB3 := Lib.hid ((HB2.out.setCell (p := ⟨w.heap.size, 0, none⟩) (Nat.le_refl _) (.string (B a))).setCell (p := ⟨w.heap.size, 1, none⟩) (Nat.le_refl _) (.string (B b)))
      generalize (w2.setCell ⟨w.heap.size, 0, none⟩ (.string (B a))).setCell ⟨w.heap.size, 1, none⟩ (.string (B b)) = w9 at *
      obtain ⟨k0, k1⟩ := HK.out
      exact bodyPost_ret (v := .tuple #[evV (a, b), .string (B r), .int .i64 0]) (by simp [results, Tryz.results111, go_sem, k0, k1]) rfl ⟨rfl, HB3.out⟩
end Go.Proofs.YtmfhipjceeijmaaGreatDoor

/-
  The document's answer to event.TakeBatch, walked.
-/
namespace Go.Proofs.YtmfhipjceeijmaaGreatDoor
open Go.RowKit
attribute [local go_sem] ext_Bd ext_Bl ext_Bt toList_B add_B size_B get_Bt

abbrev zBat : Obj := .cells #[.string (B []), .int .i64 0, .int .i64 0, .int .i64 0, .slice none 0 0] 51
/-- Behind the two batches that the function begins with. -/
structure TB (w w' : World) : Prop where
  res : w'.heap[w.heap.size]? = some zBat
  none : w'.heap[w.heap.size + 1]? = some zBat
  below : Below w.heap.size w w'
theorem TB.new (w : World) : TB w ((w.alloc zBat).alloc zBat) := by
  refine ⟨?_, ?_, ((Below.refl _ w).alloc (Nat.le_refl _) _).alloc (by simp) _⟩
  · rw [Below.heap_alloc _ _ _ (by simp)]; exact World.alloc_heap_new w _
  · have := World.alloc_heap_new (w.alloc zBat) zBat
    rwa [World.size_alloc] at this
theorem TB.call {w a b : World} (h : TB w a) (hb : Below a.heap.size a b) : TB w b := ⟨block_below h.res hb, block_below h.none hb, h.below.trans (hb.mono h.below.size)⟩
theorem TB.kept {w a b : World} (h : TB w a) (g : Option Nat) (hg : a.grownBy b g) (hn : ∀ k, g = some k → w.heap.size + 1 < k) : TB w b :=
  ⟨(hg.block _ (Array.getElem?_eq_some_iff.1 h.res).1 (fun e => by have := hn _ e.symm; omega)).trans h.res, (hg.block _ (Array.getElem?_eq_some_iff.1 h.none).1 (fun e => by have := hn _ e.symm; omega)).trans h.none,
    h.below.grown hg h.below.size (fun k hk => by have := hn k hk; omega)⟩

/-- Where the events have come to. -/
structure RtAt (w : World) (gb : Nat) (st : List UInt8) (ex se sq : Int) (all : K.Rd (List E.Ev)) (m k : Nat) (wr : World) (evs : List E.Ev) (rest : List UInt8) (v : Value) : Prop where
  len : evs.length = k
  come : Evs all evs (m - k) rest
  small : rest.length ≤ 1000000
  box : TB w wr
  bat : wr.heap[gb]? = some (.cells #[.string (B st), .int .i64 ex, .int .i64 se, .int .i64 sq, v] 51)
  own : wr.ownsRow (gb + 1) 92 2 v k (evCells evs)
theorem RtAt.next {w w7 w9 : World} {gb : Nat} {st : List UInt8} {ex se sq : Int} {all : K.Rd (List E.Ev)} {m j : Nat} {evs : List E.Ev} {e : E.Ev} {r : List UInt8} {v v' : Value} (hgb : w.heap.size + 1 < gb) (hbx : TB w w7)
    (hbat : w7.heap[gb]? = some (.cells #[.string (B st), .int .i64 ex, .int .i64 se, .int .i64 sq, v] 51)) (hown : w7.ownsRow (gb + 1) 92 2 v j (evCells evs)) (hl : evs.length = j) (hn : Evs all (evs ++ [e]) (m - (j + 1)) r) (hr : r.length ≤ 1000000)
    (hown9 : w9.ownsRow (gb + 1) 92 2 v' (j + 1) (evCells evs ++ [.string (B e.1), .string (B e.2)])) (hgrow : w7.grownBy w9 v.ownBlock) :
    w9.heap[gb]? = some (.cells #[.string (B st), .int .i64 ex, .int .i64 se, .int .i64 sq, v] 51) ∧ RtAt w gb st ex se sq all m (j + 1) (w9.setCell ⟨gb, 4, none⟩ v') (evs ++ [e]) r v' := by
  have h9 : w9.heap[gb]? = some (.cells #[.string (B st), .int .i64 ex, .int .i64 se, .int .i64 sq, v] 51) := (hgrow.block gb (Array.getElem?_eq_some_iff.1 hbat).1 (own_ne hown (by omega))).trans hbat
  refine ⟨h9, by rw [List.length_append, hl]; rfl, hn, hr, ?_, set_block h9 4 v', ?_⟩
  · refine (hbx.kept _ hgrow fun k hk => ?_).kept (some gb) (Lib.grownBy_setCell w9 gb 4 v') fun k hk => by cases hk; omega
    have := (hown.lt k hk).1
    omega
  · rw [evCells_snoc]
    exact hown9.kept (Lib.grownBy_setCell w9 gb 4 v') (.inr (own_ne hown9 (by omega)).symm)

set_option maxHeartbeats 4000000 in
set_option maxRecDepth 100000 in
theorem refTakeBat_at (s : List UInt8) (b : E.Bat) (r : List UInt8) (c : Nat) (w : World) (hs : s.length ≤ 1000000) (H : Hid (batRes (E.takeBat s) = (b, r, c))) :
    Calls Tryz.prog 78 #[.string (B s)] w fun x w' => ∃ v, x = .returned (.tuple #[batV b v, .string (B r), .int .i64 c]) ∧ ReadsE w' v b.events ∧ Below w.heap.size w w' := by
  obtain ⟨i0, hi, hz0, hz1, hz2⟩ := info_parts Tryz.infoEv
  rw [tb_eq] at H
  have HB := Lib.hid (TB.new w)
  go_enter Tryz.func78, Tryz.ntmps78
  go_wp2_with fail
  refine (refTakeText_l s 200 _ (by omega)).mono ?_
  rintro x w1 ⟨rfl, hq⟩
  have HB1 := Lib.hid (HB.out.call (below_ofq hq))
  clear HB hq
  rcases K.cases (N.takeT s 200) with ⟨k, ht⟩ | ⟨st, r1, ht⟩
  · have hpos := K.txt_errs _ _ _ ht
    have hci : ((k : Int) == 0) = false := beq_eq_false_iff_ne.2 (by omega)
    have hcn : ¬ k = 0 := by omega
    have hev := H.out
    rw [show tb1 s = _ from K.bind_bad _ ht] at hev
    cases hev
    rw [ht, show ttRes (Sum.inr c) = _ from ttRes_bad c]
    clear ht H
    have a0 := block_cell HB1.out.res 0
    have a1 := block_cell HB1.out.res 1
    have a2 := block_cell HB1.out.res 2
    have a3 := block_cell HB1.out.res 3
    have a4 := block_cell HB1.out.res 4
    simp at a0 a1 a2 a3 a4
    have l0 := block_loose HB1.out.res 0
    have l1 := block_loose HB1.out.res 1
    have l2 := block_loose HB1.out.res 2
    have l3 := block_loose HB1.out.res 3
    have l4 := block_loose HB1.out.res 4
    have n0 := block_cell HB1.out.none 0
    have n1 := block_cell HB1.out.none 1
    have n2 := block_cell HB1.out.none 2
    have n3 := block_cell HB1.out.none 3
    have n4 := block_cell HB1.out.none 4
    simp at n0 n1 n2 n3 n4
    go_wp2
    have HK : Hid ((((((w1.setCell ⟨w.heap.size, 0, none⟩ (.string (B []))).setCell ⟨w.heap.size, 1, none⟩ (.int .i64 0)).setCell ⟨w.heap.size, 2, none⟩ (.int .i64 0)).setCell ⟨w.heap.size, 3, none⟩ (.int .i64 0)).setCell ⟨w.heap.size, 4, none⟩ (.slice none 0 0)).heap[w.heap.size]? = some (.cells #[.string (B []), .int .i64 0, .int .i64 0, .int .i64 0, .slice none 0 0] 51 (0, 0))) := Lib.hid (set_five HB1.out.res)
    have HB3 : Hid (Below w.heap.size w (((((w1.setCell ⟨w.heap.size, 0, none⟩ (.string (B []))).setCell ⟨w.heap.size, 1, none⟩ (.int .i64 0)).setCell ⟨w.heap.size, 2, none⟩ (.int .i64 0)).setCell ⟨w.heap.size, 3, none⟩ (.int .i64 0)).setCell ⟨w.heap.size, 4, none⟩ (.slice none 0 0))) := Lib.hid (below_five HB1.out.below (Nat.le_refl _) _ _ _ _ _)
    generalize (((((w1.setCell ⟨w.heap.size, 0, none⟩ (.string (B []))).setCell ⟨w.heap.size, 1, none⟩ (.int .i64 0)).setCell ⟨w.heap.size, 2, none⟩ (.int .i64 0)).setCell ⟨w.heap.size, 3, none⟩ (.int .i64 0)).setCell ⟨w.heap.size, 4, none⟩ (.slice none 0 0)) = w9 at *
    have k0 := block_cell HK.out 0
    have k1 := block_cell HK.out 1
    have k2 := block_cell HK.out 2
    have k3 := block_cell HK.out 3
    have k4 := block_cell HK.out 4
    simp at k0 k1 k2 k3 k4
    exact bodyPost_ret (v := .tuple #[batV ⟨[], 0, 0, 0, []⟩ (.slice none 0 0), .string (B []), .int .i64 c]) (by simp [results, Tryz.results78, go_sem, k0, k1, k2, k3, k4]; rfl) rfl ⟨_, rfl, readsE_none _, HB3.out⟩
  have hl1 := takeT_len ht
  have E1 : Hid (tb1 s = tb2 st r1) := Lib.hid ((K.bind_ok _ ht))
  have ST := Lib.hid (takeT_small ht)
  have RW : Hid (N.takeT s 200 = Sum.inl (st, r1)) := Lib.hid ht
  rw [ht, show ttRes (Sum.inl (st, r1)) = _ from ttRes_ok st r1]
  clear ht RW
  go_wp2_with fail
  refine (refTakeInt_l r1 _ (by omega)).mono ?_
  rintro x w2 ⟨rfl, hq⟩
  have HB2 := Lib.hid (HB1.out.call (below_ofq hq))
  clear HB1 hq
  rcases K.cases (N.takeL r1) with ⟨k, ht⟩ | ⟨ex, r2, ht⟩
  · have hpos := K.num_errs _ _ ht
    have hci : ((k : Int) == 0) = false := beq_eq_false_iff_ne.2 (by omega)
    have hcn : ¬ k = 0 := by omega
    have hev := H.out
    rw [E1.out.trans (K.bind_bad _ ht)] at hev
    cases hev
    rw [ht, show tiRes (Sum.inr c) = _ from tiRes_bad c]
    clear ht H
    have a0 := block_cell HB2.out.res 0
    have a1 := block_cell HB2.out.res 1
    have a2 := block_cell HB2.out.res 2
    have a3 := block_cell HB2.out.res 3
    have a4 := block_cell HB2.out.res 4
    simp at a0 a1 a2 a3 a4
    have l0 := block_loose HB2.out.res 0
    have l1 := block_loose HB2.out.res 1
    have l2 := block_loose HB2.out.res 2
    have l3 := block_loose HB2.out.res 3
    have l4 := block_loose HB2.out.res 4
    have n0 := block_cell HB2.out.none 0
    have n1 := block_cell HB2.out.none 1
    have n2 := block_cell HB2.out.none 2
    have n3 := block_cell HB2.out.none 3
    have n4 := block_cell HB2.out.none 4
    simp at n0 n1 n2 n3 n4
    go_wp2
    have HK : Hid ((((((w2.setCell ⟨w.heap.size, 0, none⟩ (.string (B []))).setCell ⟨w.heap.size, 1, none⟩ (.int .i64 0)).setCell ⟨w.heap.size, 2, none⟩ (.int .i64 0)).setCell ⟨w.heap.size, 3, none⟩ (.int .i64 0)).setCell ⟨w.heap.size, 4, none⟩ (.slice none 0 0)).heap[w.heap.size]? = some (.cells #[.string (B []), .int .i64 0, .int .i64 0, .int .i64 0, .slice none 0 0] 51 (0, 0))) := Lib.hid (set_five HB2.out.res)
    have HB3 : Hid (Below w.heap.size w (((((w2.setCell ⟨w.heap.size, 0, none⟩ (.string (B []))).setCell ⟨w.heap.size, 1, none⟩ (.int .i64 0)).setCell ⟨w.heap.size, 2, none⟩ (.int .i64 0)).setCell ⟨w.heap.size, 3, none⟩ (.int .i64 0)).setCell ⟨w.heap.size, 4, none⟩ (.slice none 0 0))) := Lib.hid (below_five HB2.out.below (Nat.le_refl _) _ _ _ _ _)
    generalize (((((w2.setCell ⟨w.heap.size, 0, none⟩ (.string (B []))).setCell ⟨w.heap.size, 1, none⟩ (.int .i64 0)).setCell ⟨w.heap.size, 2, none⟩ (.int .i64 0)).setCell ⟨w.heap.size, 3, none⟩ (.int .i64 0)).setCell ⟨w.heap.size, 4, none⟩ (.slice none 0 0)) = w9 at *
    have k0 := block_cell HK.out 0
    have k1 := block_cell HK.out 1
    have k2 := block_cell HK.out 2
    have k3 := block_cell HK.out 3
    have k4 := block_cell HK.out 4
    simp at k0 k1 k2 k3 k4
    exact bodyPost_ret (v := .tuple #[batV ⟨[], 0, 0, 0, []⟩ (.slice none 0 0), .string (B []), .int .i64 c]) (by simp [results, Tryz.results78, go_sem, k0, k1, k2, k3, k4]; rfl) rfl ⟨_, rfl, readsE_none _, HB3.out⟩
  have hl2 := takeL_len ht
  have E2 : Hid (tb1 s = tb3 st (N.zag ex) r2) := Lib.hid (E1.out.trans (K.bind_ok _ ht))
  have RW : Hid (N.takeL r1 = Sum.inl (ex, r2)) := Lib.hid ht
  rw [ht, show tiRes (Sum.inl (ex, r2)) = _ from tiRes_ok ex r2]
  clear ht RW E1
  go_wp2_with fail
  refine (refTake_l r2 _ (by omega)).mono ?_
  rintro x w3 ⟨rfl, hq⟩
  have HB3 := Lib.hid (HB2.out.call (below_ofq hq))
  clear HB2 hq
  rcases K.cases (N.takeL r2) with ⟨k, ht⟩ | ⟨se, r3, ht⟩
  · have hpos := K.num_errs _ _ ht
    have hci : ((k : Int) == 0) = false := beq_eq_false_iff_ne.2 (by omega)
    have hcn : ¬ k = 0 := by omega
    have hev := H.out
    rw [E2.out.trans (K.bind_bad _ ht)] at hev
    cases hev
    rw [ht, show tkRes (Sum.inr c) = _ from tkRes_bad c]
    clear ht H
    have a0 := block_cell HB3.out.res 0
    have a1 := block_cell HB3.out.res 1
    have a2 := block_cell HB3.out.res 2
    have a3 := block_cell HB3.out.res 3
    have a4 := block_cell HB3.out.res 4
    simp at a0 a1 a2 a3 a4
    have l0 := block_loose HB3.out.res 0
    have l1 := block_loose HB3.out.res 1
    have l2 := block_loose HB3.out.res 2
    have l3 := block_loose HB3.out.res 3
    have l4 := block_loose HB3.out.res 4
    have n0 := block_cell HB3.out.none 0
    have n1 := block_cell HB3.out.none 1
    have n2 := block_cell HB3.out.none 2
    have n3 := block_cell HB3.out.none 3
    have n4 := block_cell HB3.out.none 4
    simp at n0 n1 n2 n3 n4
    go_wp2
    have HK : Hid ((((((w3.setCell ⟨w.heap.size, 0, none⟩ (.string (B []))).setCell ⟨w.heap.size, 1, none⟩ (.int .i64 0)).setCell ⟨w.heap.size, 2, none⟩ (.int .i64 0)).setCell ⟨w.heap.size, 3, none⟩ (.int .i64 0)).setCell ⟨w.heap.size, 4, none⟩ (.slice none 0 0)).heap[w.heap.size]? = some (.cells #[.string (B []), .int .i64 0, .int .i64 0, .int .i64 0, .slice none 0 0] 51 (0, 0))) := Lib.hid (set_five HB3.out.res)
    have HB3 : Hid (Below w.heap.size w (((((w3.setCell ⟨w.heap.size, 0, none⟩ (.string (B []))).setCell ⟨w.heap.size, 1, none⟩ (.int .i64 0)).setCell ⟨w.heap.size, 2, none⟩ (.int .i64 0)).setCell ⟨w.heap.size, 3, none⟩ (.int .i64 0)).setCell ⟨w.heap.size, 4, none⟩ (.slice none 0 0))) := Lib.hid (below_five HB3.out.below (Nat.le_refl _) _ _ _ _ _)
    generalize (((((w3.setCell ⟨w.heap.size, 0, none⟩ (.string (B []))).setCell ⟨w.heap.size, 1, none⟩ (.int .i64 0)).setCell ⟨w.heap.size, 2, none⟩ (.int .i64 0)).setCell ⟨w.heap.size, 3, none⟩ (.int .i64 0)).setCell ⟨w.heap.size, 4, none⟩ (.slice none 0 0)) = w9 at *
    have k0 := block_cell HK.out 0
    have k1 := block_cell HK.out 1
    have k2 := block_cell HK.out 2
    have k3 := block_cell HK.out 3
    have k4 := block_cell HK.out 4
    simp at k0 k1 k2 k3 k4
    exact bodyPost_ret (v := .tuple #[batV ⟨[], 0, 0, 0, []⟩ (.slice none 0 0), .string (B []), .int .i64 c]) (by simp [results, Tryz.results78, go_sem, k0, k1, k2, k3, k4]; rfl) rfl ⟨_, rfl, readsE_none _, HB3.out⟩
  have hl3 := takeL_len ht
  have E3 : Hid (tb1 s = tb4 st (N.zag ex) se r3) := Lib.hid (E2.out.trans (K.bind_ok _ ht))
  have RW : Hid (N.takeL r2 = Sum.inl (se, r3)) := Lib.hid ht
  rw [ht, show tkRes (Sum.inl (se, r3)) = _ from tkRes_ok se r3]
  clear ht RW E2
  go_wp2_with fail
  refine (refTake_l r3 _ (by omega)).mono ?_
  rintro x w4 ⟨rfl, hq⟩
  have HB4 := Lib.hid (HB3.out.call (below_ofq hq))
  clear HB3 hq
  rcases K.cases (N.takeL r3) with ⟨k, ht⟩ | ⟨sq, r4, ht⟩
  · have hpos := K.num_errs _ _ ht
    have hci : ((k : Int) == 0) = false := beq_eq_false_iff_ne.2 (by omega)
    have hcn : ¬ k = 0 := by omega
    have hev := H.out
    rw [E3.out.trans (K.bind_bad _ ht)] at hev
    cases hev
    rw [ht, show tkRes (Sum.inr c) = _ from tkRes_bad c]
    clear ht H
    have a0 := block_cell HB4.out.res 0
    have a1 := block_cell HB4.out.res 1
    have a2 := block_cell HB4.out.res 2
    have a3 := block_cell HB4.out.res 3
    have a4 := block_cell HB4.out.res 4
    simp at a0 a1 a2 a3 a4
    have l0 := block_loose HB4.out.res 0
    have l1 := block_loose HB4.out.res 1
    have l2 := block_loose HB4.out.res 2
    have l3 := block_loose HB4.out.res 3
    have l4 := block_loose HB4.out.res 4
    have n0 := block_cell HB4.out.none 0
    have n1 := block_cell HB4.out.none 1
    have n2 := block_cell HB4.out.none 2
    have n3 := block_cell HB4.out.none 3
    have n4 := block_cell HB4.out.none 4
    simp at n0 n1 n2 n3 n4
    go_wp2
    have HK : Hid ((((((w4.setCell ⟨w.heap.size, 0, none⟩ (.string (B []))).setCell ⟨w.heap.size, 1, none⟩ (.int .i64 0)).setCell ⟨w.heap.size, 2, none⟩ (.int .i64 0)).setCell ⟨w.heap.size, 3, none⟩ (.int .i64 0)).setCell ⟨w.heap.size, 4, none⟩ (.slice none 0 0)).heap[w.heap.size]? = some (.cells #[.string (B []), .int .i64 0, .int .i64 0, .int .i64 0, .slice none 0 0] 51 (0, 0))) := Lib.hid (set_five HB4.out.res)
    have HB3 : Hid (Below w.heap.size w (((((w4.setCell ⟨w.heap.size, 0, none⟩ (.string (B []))).setCell ⟨w.heap.size, 1, none⟩ (.int .i64 0)).setCell ⟨w.heap.size, 2, none⟩ (.int .i64 0)).setCell ⟨w.heap.size, 3, none⟩ (.int .i64 0)).setCell ⟨w.heap.size, 4, none⟩ (.slice none 0 0))) := Lib.hid (below_five HB4.out.below (Nat.le_refl _) _ _ _ _ _)
    generalize (((((w4.setCell ⟨w.heap.size, 0, none⟩ (.string (B []))).setCell ⟨w.heap.size, 1, none⟩ (.int .i64 0)).setCell ⟨w.heap.size, 2, none⟩ (.int .i64 0)).setCell ⟨w.heap.size, 3, none⟩ (.int .i64 0)).setCell ⟨w.heap.size, 4, none⟩ (.slice none 0 0)) = w9 at *
    have k0 := block_cell HK.out 0
    have k1 := block_cell HK.out 1
    have k2 := block_cell HK.out 2
    have k3 := block_cell HK.out 3
    have k4 := block_cell HK.out 4
    simp at k0 k1 k2 k3 k4
    exact bodyPost_ret (v := .tuple #[batV ⟨[], 0, 0, 0, []⟩ (.slice none 0 0), .string (B []), .int .i64 c]) (by simp [results, Tryz.results78, go_sem, k0, k1, k2, k3, k4]; rfl) rfl ⟨_, rfl, readsE_none _, HB3.out⟩
  have hl4 := takeL_len ht
  have E4 : Hid (tb1 s = tb5 st (N.zag ex) se sq r4) := Lib.hid (E3.out.trans (K.bind_ok _ ht))
  have RW : Hid (N.takeL r3 = Sum.inl (sq, r4)) := Lib.hid ht
  rw [ht, show tkRes (Sum.inl (sq, r4)) = _ from tkRes_ok sq r4]
  clear ht RW E3
  go_wp2_with fail
  refine (refTake_l r4 _ (by omega)).mono ?_
  rintro x w5 ⟨rfl, hq⟩
  have HB5 := Lib.hid (HB4.out.call (below_ofq hq))
  clear HB4 hq
  rcases K.cases (N.takeL r4) with ⟨k, ht⟩ | ⟨m, r5, ht⟩
  · have hpos := K.num_errs _ _ ht
    have hci : ((k : Int) == 0) = false := beq_eq_false_iff_ne.2 (by omega)
    have hcn : ¬ k = 0 := by omega
    have hev := H.out
    rw [E4.out.trans (K.bind_bad _ (countEvs_bad ht))] at hev
    cases hev
    rw [ht, show tkRes (Sum.inr c) = _ from tkRes_bad c]
    clear ht H
    have a0 := block_cell HB5.out.res 0
    have a1 := block_cell HB5.out.res 1
    have a2 := block_cell HB5.out.res 2
    have a3 := block_cell HB5.out.res 3
    have a4 := block_cell HB5.out.res 4
    simp at a0 a1 a2 a3 a4
    have l0 := block_loose HB5.out.res 0
    have l1 := block_loose HB5.out.res 1
    have l2 := block_loose HB5.out.res 2
    have l3 := block_loose HB5.out.res 3
    have l4 := block_loose HB5.out.res 4
    have n0 := block_cell HB5.out.none 0
    have n1 := block_cell HB5.out.none 1
    have n2 := block_cell HB5.out.none 2
    have n3 := block_cell HB5.out.none 3
    have n4 := block_cell HB5.out.none 4
    simp at n0 n1 n2 n3 n4
    go_wp2
    have HK : Hid ((((((w5.setCell ⟨w.heap.size, 0, none⟩ (.string (B []))).setCell ⟨w.heap.size, 1, none⟩ (.int .i64 0)).setCell ⟨w.heap.size, 2, none⟩ (.int .i64 0)).setCell ⟨w.heap.size, 3, none⟩ (.int .i64 0)).setCell ⟨w.heap.size, 4, none⟩ (.slice none 0 0)).heap[w.heap.size]? = some (.cells #[.string (B []), .int .i64 0, .int .i64 0, .int .i64 0, .slice none 0 0] 51 (0, 0))) := Lib.hid (set_five HB5.out.res)
    have HB3 : Hid (Below w.heap.size w (((((w5.setCell ⟨w.heap.size, 0, none⟩ (.string (B []))).setCell ⟨w.heap.size, 1, none⟩ (.int .i64 0)).setCell ⟨w.heap.size, 2, none⟩ (.int .i64 0)).setCell ⟨w.heap.size, 3, none⟩ (.int .i64 0)).setCell ⟨w.heap.size, 4, none⟩ (.slice none 0 0))) := Lib.hid (below_five HB5.out.below (Nat.le_refl _) _ _ _ _ _)
    generalize (((((w5.setCell ⟨w.heap.size, 0, none⟩ (.string (B []))).setCell ⟨w.heap.size, 1, none⟩ (.int .i64 0)).setCell ⟨w.heap.size, 2, none⟩ (.int .i64 0)).setCell ⟨w.heap.size, 3, none⟩ (.int .i64 0)).setCell ⟨w.heap.size, 4, none⟩ (.slice none 0 0)) = w9 at *
    have k0 := block_cell HK.out 0
    have k1 := block_cell HK.out 1
    have k2 := block_cell HK.out 2
    have k3 := block_cell HK.out 3
    have k4 := block_cell HK.out 4
    simp at k0 k1 k2 k3 k4
    exact bodyPost_ret (v := .tuple #[batV ⟨[], 0, 0, 0, []⟩ (.slice none 0 0), .string (B []), .int .i64 c]) (by simp [results, Tryz.results78, go_sem, k0, k1, k2, k3, k4]; rfl) rfl ⟨_, rfl, readsE_none _, HB3.out⟩
  have hl5 := takeL_len ht
  have RW : Hid (N.takeL r4 = Sum.inl (m, r5)) := Lib.hid ht
  rw [ht, show tkRes (Sum.inl (m, r5)) = _ from tkRes_ok m r5]
  clear ht
  by_cases h8 : 8 < m
  · have h8i : (8 : Int) < m := by omega
    have hev := H.out
    rw [E4.out.trans (K.bind_bad _ (countEvs_long RW.out h8))] at hev
    cases hev
    clear H
    have a0 := block_cell HB5.out.res 0
    have a1 := block_cell HB5.out.res 1
    have a2 := block_cell HB5.out.res 2
    have a3 := block_cell HB5.out.res 3
    have a4 := block_cell HB5.out.res 4
    simp at a0 a1 a2 a3 a4
    have l0 := block_loose HB5.out.res 0
    have l1 := block_loose HB5.out.res 1
    have l2 := block_loose HB5.out.res 2
    have l3 := block_loose HB5.out.res 3
    have l4 := block_loose HB5.out.res 4
    have n0 := block_cell HB5.out.none 0
    have n1 := block_cell HB5.out.none 1
    have n2 := block_cell HB5.out.none 2
    have n3 := block_cell HB5.out.none 3
    have n4 := block_cell HB5.out.none 4
    simp at n0 n1 n2 n3 n4
    go_wp2
    have HK : Hid ((((((w5.setCell ⟨w.heap.size, 0, none⟩ (.string (B []))).setCell ⟨w.heap.size, 1, none⟩ (.int .i64 0)).setCell ⟨w.heap.size, 2, none⟩ (.int .i64 0)).setCell ⟨w.heap.size, 3, none⟩ (.int .i64 0)).setCell ⟨w.heap.size, 4, none⟩ (.slice none 0 0)).heap[w.heap.size]? = some (.cells #[.string (B []), .int .i64 0, .int .i64 0, .int .i64 0, .slice none 0 0] 51 (0, 0))) := Lib.hid (set_five HB5.out.res)
    have HB3 : Hid (Below w.heap.size w (((((w5.setCell ⟨w.heap.size, 0, none⟩ (.string (B []))).setCell ⟨w.heap.size, 1, none⟩ (.int .i64 0)).setCell ⟨w.heap.size, 2, none⟩ (.int .i64 0)).setCell ⟨w.heap.size, 3, none⟩ (.int .i64 0)).setCell ⟨w.heap.size, 4, none⟩ (.slice none 0 0))) := Lib.hid (below_five HB5.out.below (Nat.le_refl _) _ _ _ _ _)
    generalize (((((w5.setCell ⟨w.heap.size, 0, none⟩ (.string (B []))).setCell ⟨w.heap.size, 1, none⟩ (.int .i64 0)).setCell ⟨w.heap.size, 2, none⟩ (.int .i64 0)).setCell ⟨w.heap.size, 3, none⟩ (.int .i64 0)).setCell ⟨w.heap.size, 4, none⟩ (.slice none 0 0)) = w9 at *
    have k0 := block_cell HK.out 0
    have k1 := block_cell HK.out 1
    have k2 := block_cell HK.out 2
    have k3 := block_cell HK.out 3
    have k4 := block_cell HK.out 4
    simp at k0 k1 k2 k3 k4
    exact bodyPost_ret (v := .tuple #[batV ⟨[], 0, 0, 0, []⟩ (.slice none 0 0), .string (B []), .int .i64 4]) (by simp [results, Tryz.results78, go_sem, k0, k1, k2, k3, k4]; rfl) rfl ⟨_, rfl, readsE_none _, HB3.out⟩
  have h8i : ¬ (8 : Int) < m := by omega
  have HC := Lib.hid (countEvs_ok RW.out h8)
  have hgb : w.heap.size + 1 < w5.heap.size := (Array.getElem?_eq_some_iff.1 HB5.out.none).1
  have HST : Hid (RtAt w w5.heap.size st (N.zag ex) se sq (countEvs r4) m 0 (w5.alloc (.cells #[.string (B st), .int .i64 (N.zag ex), .int .i64 se, .int .i64 sq, .slice none 0 0] 51)) [] r5 (.slice none 0 0)) := Lib.hid
    ⟨rfl, by rw [HC.out]; exact Evs.start m r5, by omega, HB5.out.call ((Below.refl _ w5).alloc (Nat.le_refl _) _), World.alloc_heap_new w5 _, World.ownsRow_nil _ _ _ _⟩
  clear RW HB5
  go_wp2
  generalize N.zag ex = zx at *
  generalize w5.heap.size = gb at *
  go_loopw [7, 14] (fun q i wr => ∃ j : Nat, i = .int .i64 j ∧ j ≤ m ∧ ∃ evs rest v, q = .string (B rest) ∧ RtAt w gb st zx se sq (countEvs r4) m j wr evs rest v) (fun _ i _ => m - (intOf i).toNat)
  case atStart => exact ⟨0, rfl, Nat.zero_le _, _, _, _, rfl, HST.out⟩
  case round =>
    obtain ⟨j, rfl, hj, evs, rest, v, rfl, hat⟩ := hrel
    have HAT := Lib.hid hat
    clear hat HST
    by_cases hlt : j < m
    · have hk1 : (j : Int) < (m : Int) := by omega
      have hcm := HAT.out.come
      rw [show m - j = m - (j + 1) + 1 by omega] at hcm
      rcases K.cases (E.parts rest) with ⟨k, hp⟩ | ⟨e, r2, hp⟩
      · have hpos := E.parts_errs rest _ hp
        have hci : ((k : Int) == 0) = false := beq_eq_false_iff_ne.2 (by omega)
        have hcn : ¬ k = 0 := by omega
        have hev := H.out
        rw [E4.out.trans (K.bind_bad _ (hcm.bad hp))] at hev
        cases hev
        have HP : Hid (evRes (E.parts rest) = (([], []), [], c)) := Lib.hid (by rw [hp]; rfl)
        clear H hcm hp
        go_wp2_with fail
        refine (refParts_at rest ([], []) [] c wr HAT.out.small HP).mono ?_
        rintro x w6 ⟨rfl, hb6⟩
        have HBX := Lib.hid ((HAT.out.box.call hb6).call ((Below.refl _ w6).alloc (Nat.le_refl _) (.cells #[.string (B []), .string (B [])] 92)))
        clear hb6
        have a0 := block_cell HBX.out.res 0
        have a1 := block_cell HBX.out.res 1
        have a2 := block_cell HBX.out.res 2
        have a3 := block_cell HBX.out.res 3
        have a4 := block_cell HBX.out.res 4
        simp at a0 a1 a2 a3 a4
        have l0 := block_loose HBX.out.res 0
        have l1 := block_loose HBX.out.res 1
        have l2 := block_loose HBX.out.res 2
        have l3 := block_loose HBX.out.res 3
        have l4 := block_loose HBX.out.res 4
        have n0 := block_cell HBX.out.none 0
        have n1 := block_cell HBX.out.none 1
        have n2 := block_cell HBX.out.none 2
        have n3 := block_cell HBX.out.none 3
        have n4 := block_cell HBX.out.none 4
        simp at n0 n1 n2 n3 n4
        go_wp2
        have HK : Hid (((((((w6.alloc (.cells #[.string (B []), .string (B [])] 92)).setCell ⟨w.heap.size, 0, none⟩ (.string (B []))).setCell ⟨w.heap.size, 1, none⟩ (.int .i64 0)).setCell ⟨w.heap.size, 2, none⟩ (.int .i64 0)).setCell ⟨w.heap.size, 3, none⟩ (.int .i64 0)).setCell ⟨w.heap.size, 4, none⟩ (.slice none 0 0)).heap[w.heap.size]? = some (.cells #[.string (B []), .int .i64 0, .int .i64 0, .int .i64 0, .slice none 0 0] 51 (0, 0))) := Lib.hid (set_five HBX.out.res)
        have HB3 : Hid (Below w.heap.size w ((((((w6.alloc (.cells #[.string (B []), .string (B [])] 92)).setCell ⟨w.heap.size, 0, none⟩ (.string (B []))).setCell ⟨w.heap.size, 1, none⟩ (.int .i64 0)).setCell ⟨w.heap.size, 2, none⟩ (.int .i64 0)).setCell ⟨w.heap.size, 3, none⟩ (.int .i64 0)).setCell ⟨w.heap.size, 4, none⟩ (.slice none 0 0))) := Lib.hid (below_five HBX.out.below (Nat.le_refl _) _ _ _ _ _)
        generalize ((((((w6.alloc (.cells #[.string (B []), .string (B [])] 92)).setCell ⟨w.heap.size, 0, none⟩ (.string (B []))).setCell ⟨w.heap.size, 1, none⟩ (.int .i64 0)).setCell ⟨w.heap.size, 2, none⟩ (.int .i64 0)).setCell ⟨w.heap.size, 3, none⟩ (.int .i64 0)).setCell ⟨w.heap.size, 4, none⟩ (.slice none 0 0)) = w9 at *
        have k0 := block_cell HK.out 0
        have k1 := block_cell HK.out 1
        have k2 := block_cell HK.out 2
        have k3 := block_cell HK.out 3
        have k4 := block_cell HK.out 4
        simp at k0 k1 k2 k3 k4
        exact bodyPost_ret (v := .tuple #[batV ⟨[], 0, 0, 0, []⟩ (.slice none 0 0), .string (B []), .int .i64 c]) (by simp [results, Tryz.results78, go_sem, k0, k1, k2, k3, k4]; rfl) rfl ⟨_, rfl, readsE_none _, HB3.out⟩
      · have HNX := Lib.hid (hcm.step hp)
        have hr2l := parts_len hp
        have hsm := HAT.out.small
        have hel := HAT.out.len
        have hj8 : j ≤ 8 := by omega
        have HP : Hid (evRes (E.parts rest) = (e, r2, 0)) := Lib.hid (by rw [hp]; rfl)
        clear hcm hp
        go_wp2_with fail
        refine (refParts_at rest e r2 0 wr HAT.out.small HP).mono ?_
        rintro x w6 ⟨rfl, hb6⟩
        have hba : Below w6.heap.size w6 (w6.alloc (.cells #[.string (B e.1), .string (B e.2)] 92)) := (Below.refl _ w6).alloc (Nat.le_refl _) _
        have HBX := Lib.hid ((HAT.out.box.call hb6).call hba)
        have HBAT := Lib.hid (block_below (block_below HAT.out.bat hb6) hba)
        have hown := own_below5 (own_below5 HAT.out.own hb6) hba
        have HOWN := Lib.hid hown
        have e0 : (w6.alloc (.cells #[.string (B e.1), .string (B e.2)] 92)).cell? ⟨w6.heap.size, 0, none⟩ = some (.string (B e.1)) := by rw [World.cell?_alloc_new]; rfl
        have e1 : (w6.alloc (.cells #[.string (B e.1), .string (B e.2)] 92)).cell? ⟨w6.heap.size, 1, none⟩ = some (.string (B e.2)) := by rw [World.cell?_alloc_new]; rfl
        have hlt6 : w6.heap.size < (w6.alloc (.cells #[.string (B e.1), .string (B e.2)] 92)).heap.size := by simp
        have c4 := block_cell HBAT.out 4
        simp at c4
        have hgb6 : gb < w6.heap.size := by have := (Array.getElem?_eq_some_iff.1 (block_below HAT.out.bat hb6)).1; exact this
        have HNEW : Hid (((w6.alloc (.cells #[.string (B e.1), .string (B e.2)] 92)).alloc (.cells #[.string (B e.1), .string (B e.2)] 92)).heap[w6.heap.size + 1]? = some (.cells #[.string (B e.1), .string (B e.2)] 92)) := Lib.hid (by
          have := World.alloc_heap_new (w6.alloc (.cells #[.string (B e.1), .string (B e.2)] 92)) (.cells #[.string (B e.1), .string (B e.2)] 92)
          rwa [World.size_alloc] at this)
        have HBX2 := Lib.hid (HBX.out.call ((Below.refl _ _).alloc (Nat.le_refl _) (.cells #[.string (B e.1), .string (B e.2)] 92)))
        have HBAT2 := Lib.hid (block_below HBAT.out ((Below.refl _ _).alloc (Nat.le_refl _) (.cells #[.string (B e.1), .string (B e.2)] 92)))
        clear hb6 hba HAT
        go_wp2_with (at_builtin; refine wpList_append_own _ rfl _ _ 49 rfl (gb + 1) 92 i0 _ 2 32 Tryz.underlying49 hi hz0 hz1 hz2 rfl (by decide) v j (evCells evs) rfl (HOWN.out.alloc _) ⟨w6.heap.size + 1, 0, none⟩ 1 1 [.string (B e.1), .string (B e.2)] rfl rfl (World.news_of_block HNEW.out) (by simp [Value.oneCell']) (by unfold maxLen; omega) (by omega) (by simp; omega) ?_; intro v' w9 hown9 hgrow9 _; obtain ⟨g', cap', rfl⟩ := ownsRow_succ hown9; have HN := Lib.hid (RtAt.next hgb HBX2.out HBAT2.out (HOWN.out.alloc _) hel HNX.out (by omega) hown9 hgrow9); have y4 := block_loose HN.out.1 4; have z4 := block_cell HN.out.1 4; simp at z4)
        go_roundw
        case rel => exact ⟨j + 1, by go_num, by omega, _, _, _, rfl, HN.out.2⟩
        case measure => simp [intOf]; omega
    · have hjm : j = m := by omega
      subst hjm
      have hcm := HAT.out.come
      rw [Nat.sub_self] at hcm
      have hd := hcm.done
      have hes := evs_small hd
      have HL := Lib.hid HAT.out.len
      have hss := ST.out
      have hev := H.out
      rw [E4.out.trans (K.bind_ok _ hd)] at hev
      clear H hcm hd
      have HRE : Hid (ReadsE wr v evs) := Lib.hid (readsE_own (by rw [HL.out]; exact HAT.out.own))
      obtain ⟨pa, pc, hvv, -⟩ := HRE.out
      subst hvv
      have HBT := Lib.hid HAT.out.bat
      have HTB := Lib.hid HAT.out.box
      have HOW := Lib.hid HAT.out.own
      clear HAT
      obtain ⟨f, HFI⟩ : ∃ f, Hid (E.fits ⟨st, zx, se, sq, evs⟩ = f) := ⟨_, Lib.hid rfl⟩
      rw [HFI.out] at hev
      have b0 := block_cell HBT.out 0
      have b1 := block_cell HBT.out 1
      have b2 := block_cell HBT.out 2
      have b3 := block_cell HBT.out 3
      have b4 := block_cell HBT.out 4
      simp at b0 b1 b2 b3 b4
      by_cases hf : f = 0
      · subst hf
        rw [if_pos rfl] at hev
        cases hev
        go_wp2_with fail
        refine (refFits_at ⟨st, zx, se, sq, evs⟩ (.slice pa evs.length pc) 0 wr HRE.out (by dsimp only; omega) (fun _ e he => by have := hes.2 e he; omega) HFI).mono ?_
        rintro x w6 ⟨rfl, hb6⟩
        clear b0 b1 b2 b3 b4
        have HTB6 := Lib.hid (HTB.out.call hb6)
        have HBT6 := Lib.hid (block_below HBT.out hb6)
        have HOW6 := Lib.hid (own_below5 HOW.out hb6)
        clear hb6
        have b0 := block_cell HBT6.out 0
        have b1 := block_cell HBT6.out 1
        have b2 := block_cell HBT6.out 2
        have b3 := block_cell HBT6.out 3
        have b4 := block_cell HBT6.out 4
        simp at b0 b1 b2 b3 b4
        have l0 := block_loose HTB6.out.res 0
        have l1 := block_loose HTB6.out.res 1
        have l2 := block_loose HTB6.out.res 2
        have l3 := block_loose HTB6.out.res 3
        have l4 := block_loose HTB6.out.res 4
        have a0 := block_cell HTB6.out.res 0
        have a1 := block_cell HTB6.out.res 1
        have a2 := block_cell HTB6.out.res 2
        have a3 := block_cell HTB6.out.res 3
        have a4 := block_cell HTB6.out.res 4
        simp at a0 a1 a2 a3 a4
        go_wp2
        have HK : Hid ((((((w6.setCell ⟨w.heap.size, 0, none⟩ (.string (B st))).setCell ⟨w.heap.size, 1, none⟩ (.int .i64 zx)).setCell ⟨w.heap.size, 2, none⟩ (.int .i64 se)).setCell ⟨w.heap.size, 3, none⟩ (.int .i64 sq)).setCell ⟨w.heap.size, 4, none⟩ (.slice pa evs.length pc)).heap[w.heap.size]? = some (.cells #[.string (B st), .int .i64 zx, .int .i64 se, .int .i64 sq, .slice pa evs.length pc] 51 (0, 0))) := Lib.hid (set_five HTB6.out.res)
        have HB3 : Hid (Below w.heap.size w (((((w6.setCell ⟨w.heap.size, 0, none⟩ (.string (B st))).setCell ⟨w.heap.size, 1, none⟩ (.int .i64 zx)).setCell ⟨w.heap.size, 2, none⟩ (.int .i64 se)).setCell ⟨w.heap.size, 3, none⟩ (.int .i64 sq)).setCell ⟨w.heap.size, 4, none⟩ (.slice pa evs.length pc))) := Lib.hid (below_five HTB6.out.below (Nat.le_refl _) _ _ _ _ _)
        have HR3 : Hid (ReadsE (((((w6.setCell ⟨w.heap.size, 0, none⟩ (.string (B st))).setCell ⟨w.heap.size, 1, none⟩ (.int .i64 zx)).setCell ⟨w.heap.size, 2, none⟩ (.int .i64 se)).setCell ⟨w.heap.size, 3, none⟩ (.int .i64 sq)).setCell ⟨w.heap.size, 4, none⟩ (.slice pa evs.length pc)) (.slice pa evs.length pc) evs) := Lib.hid (readsE_own (by have h := HOW6.out.kept (grown_five w6 w.heap.size (.string (B st)) (.int .i64 zx) (.int .i64 se) (.int .i64 sq) (.slice pa evs.length pc)) (.inr (own_ne HOW6.out (by omega)).symm); rw [← HL.out] at h; exact h))
        generalize (((((w6.setCell ⟨w.heap.size, 0, none⟩ (.string (B st))).setCell ⟨w.heap.size, 1, none⟩ (.int .i64 zx)).setCell ⟨w.heap.size, 2, none⟩ (.int .i64 se)).setCell ⟨w.heap.size, 3, none⟩ (.int .i64 sq)).setCell ⟨w.heap.size, 4, none⟩ (.slice pa evs.length pc)) = w9 at *
        have k0 := block_cell HK.out 0
        have k1 := block_cell HK.out 1
        have k2 := block_cell HK.out 2
        have k3 := block_cell HK.out 3
        have k4 := block_cell HK.out 4
        simp at k0 k1 k2 k3 k4
        exact bodyPost_ret (v := .tuple #[batV ⟨st, zx, se, sq, evs⟩ (.slice pa evs.length pc), .string (B r), .int .i64 0]) (by simp [results, Tryz.results78, go_sem, k0, k1, k2, k3, k4]) rfl ⟨_, rfl, HR3.out, HB3.out⟩
      · rw [if_neg hf] at hev
        cases hev
        have hfi : ((f : Int) == 0) = false := beq_eq_false_iff_ne.2 (by omega)
        go_wp2_with fail
        refine (refFits_at ⟨st, zx, se, sq, evs⟩ _ f wr HRE.out (by dsimp only; omega) (fun _ e he => by have := hes.2 e he; omega) HFI).mono ?_
        rintro x w6 ⟨rfl, hb6⟩
        have HTB6 := Lib.hid (HTB.out.call hb6)
        clear b0 b1 b2 b3 b4 hb6
        have a0 := block_cell HTB6.out.res 0
        have a1 := block_cell HTB6.out.res 1
        have a2 := block_cell HTB6.out.res 2
        have a3 := block_cell HTB6.out.res 3
        have a4 := block_cell HTB6.out.res 4
        simp at a0 a1 a2 a3 a4
        have l0 := block_loose HTB6.out.res 0
        have l1 := block_loose HTB6.out.res 1
        have l2 := block_loose HTB6.out.res 2
        have l3 := block_loose HTB6.out.res 3
        have l4 := block_loose HTB6.out.res 4
        have n0 := block_cell HTB6.out.none 0
        have n1 := block_cell HTB6.out.none 1
        have n2 := block_cell HTB6.out.none 2
        have n3 := block_cell HTB6.out.none 3
        have n4 := block_cell HTB6.out.none 4
        simp at n0 n1 n2 n3 n4
        go_wp2
        have HK : Hid ((((((w6.setCell ⟨w.heap.size, 0, none⟩ (.string (B []))).setCell ⟨w.heap.size, 1, none⟩ (.int .i64 0)).setCell ⟨w.heap.size, 2, none⟩ (.int .i64 0)).setCell ⟨w.heap.size, 3, none⟩ (.int .i64 0)).setCell ⟨w.heap.size, 4, none⟩ (.slice none 0 0)).heap[w.heap.size]? = some (.cells #[.string (B []), .int .i64 0, .int .i64 0, .int .i64 0, .slice none 0 0] 51 (0, 0))) := Lib.hid (set_five HTB6.out.res)
        have HB3 : Hid (Below w.heap.size w (((((w6.setCell ⟨w.heap.size, 0, none⟩ (.string (B []))).setCell ⟨w.heap.size, 1, none⟩ (.int .i64 0)).setCell ⟨w.heap.size, 2, none⟩ (.int .i64 0)).setCell ⟨w.heap.size, 3, none⟩ (.int .i64 0)).setCell ⟨w.heap.size, 4, none⟩ (.slice none 0 0))) := Lib.hid (below_five HTB6.out.below (Nat.le_refl _) _ _ _ _ _)
        generalize (((((w6.setCell ⟨w.heap.size, 0, none⟩ (.string (B []))).setCell ⟨w.heap.size, 1, none⟩ (.int .i64 0)).setCell ⟨w.heap.size, 2, none⟩ (.int .i64 0)).setCell ⟨w.heap.size, 3, none⟩ (.int .i64 0)).setCell ⟨w.heap.size, 4, none⟩ (.slice none 0 0)) = w9 at *
        have k0 := block_cell HK.out 0
        have k1 := block_cell HK.out 1
        have k2 := block_cell HK.out 2
        have k3 := block_cell HK.out 3
        have k4 := block_cell HK.out 4
        simp at k0 k1 k2 k3 k4
        exact bodyPost_ret (v := .tuple #[batV ⟨[], 0, 0, 0, []⟩ (.slice none 0 0), .string (B []), .int .i64 2]) (by simp [results, Tryz.results78, go_sem, k0, k1, k2, k3, k4]; rfl) rfl ⟨_, rfl, readsE_none _, HB3.out⟩
end Go.Proofs.YtmfhipjceeijmaaGreatDoor

/-
  Walks of Same, of package record and of the document's answer.
-/
namespace Go.Proofs.YtmfhipjceeijmaaGreatDoor
open Go.RowKit
attribute [local go_sem] ext_Bd ext_Bl ext_Bt toList_B add_B size_B get_Bt

def R.same (x y : R.En) : Bool := decide (x.pos = y.pos) && (decide (x.epoch = y.epoch) && E.sameB x.b y.b)


theorem allocs4 (w : World) (o1 o2 o3 o4 : Obj) : Below w.heap.size w ((((w.alloc o1).alloc o2).alloc o3).alloc o4) :=
  ((((Below.refl _ w).alloc (Nat.le_refl _) o1).alloc (by simp) o2).alloc (by simp; omega) o3).alloc (by simp; omega) o4
set_option maxHeartbeats 4000000 in
set_option maxRecDepth 100000 in
theorem refSame_head (x y : R.En) (vx vy : Value) (w : World) (hx : ReadsE w vx x.b.events) (hy : ReadsE w vy y.b.events)
    (h : ¬ (x.pos = y.pos ∧ x.epoch = y.epoch ∧ x.b.stream = y.b.stream ∧ x.b.expect = y.b.expect ∧ x.b.session = y.b.session ∧ x.b.seq = y.b.seq ∧ x.b.events.length = y.b.events.length)) :
    Calls Tryz.prog 83 #[enV x vx, enV y vy] w fun r w' => r = .returned (.bool false) ∧ Below w.heap.size w w' := by
  obtain ⟨p1, e1, ⟨st1, ex1, se1, sq1, ev1⟩⟩ := x
  obtain ⟨p2, e2, ⟨st2, ex2, se2, sq2, ev2⟩⟩ := y
  dsimp only at hx hy h ⊢
  obtain ⟨a1, c1, rfl, _⟩ := hx
  obtain ⟨a2, c2, rfl, _⟩ := hy
  by_cases h1 : ¬ p1 = p2
  · have g : (p1 == p2) = false := beq_eq_false_iff_ne.2 h1
    have gn : (p1 != p2) = true := by simpa using h1
    clear h h1
    go_enter Tryz.func83, Tryz.ntmps83
    go_wp2
    all_goals
      go_ret
      exact ⟨rfl, allocs4 _ _ _ _ _⟩
  replace h1 := Decidable.of_not_not h1
  by_cases h2 : ¬ e1 = e2
  · have g : (e1 == e2) = false := beq_eq_false_iff_ne.2 h2
    have gn : (e1 != e2) = true := by simpa using h2
    clear h h2
    subst h1
    go_enter Tryz.func83, Tryz.ntmps83
    go_wp2
    all_goals
      go_ret
      exact ⟨rfl, allocs4 _ _ _ _ _⟩
  replace h2 := Decidable.of_not_not h2
  by_cases h3 : ¬ st1 = st2
  · have g : (st1 == st2) = false := beq_eq_false_iff_ne.2 h3
    have gn : (st1 != st2) = true := by simpa using h3
    clear h h3
    subst h1 h2
    go_enter Tryz.func83, Tryz.ntmps83
    go_wp2
    all_goals
      go_ret
      exact ⟨rfl, allocs4 _ _ _ _ _⟩
  replace h3 := Decidable.of_not_not h3
  by_cases h4 : ¬ ex1 = ex2
  · have g : (ex1 == ex2) = false := beq_eq_false_iff_ne.2 h4
    have gn : (ex1 != ex2) = true := by simpa using h4
    clear h h4
    subst h1 h2 h3
    go_enter Tryz.func83, Tryz.ntmps83
    go_wp2
    all_goals
      go_ret
      exact ⟨rfl, allocs4 _ _ _ _ _⟩
  replace h4 := Decidable.of_not_not h4
  by_cases h5 : ¬ se1 = se2
  · have g : (se1 == se2) = false := beq_eq_false_iff_ne.2 h5
    have gn : (se1 != se2) = true := by simpa using h5
    clear h h5
    subst h1 h2 h3 h4
    go_enter Tryz.func83, Tryz.ntmps83
    go_wp2
    all_goals
      go_ret
      exact ⟨rfl, allocs4 _ _ _ _ _⟩
  replace h5 := Decidable.of_not_not h5
  by_cases h6 : ¬ sq1 = sq2
  · have g : (sq1 == sq2) = false := beq_eq_false_iff_ne.2 h6
    have gn : (sq1 != sq2) = true := by simpa using h6
    clear h h6
    subst h1 h2 h3 h4 h5
    go_enter Tryz.func83, Tryz.ntmps83
    go_wp2
    all_goals
      go_ret
      exact ⟨rfl, allocs4 _ _ _ _ _⟩
  replace h6 := Decidable.of_not_not h6
  have h7 : ¬ ev1.length = ev2.length := fun h7 => h ⟨h1, h2, h3, h4, h5, h6, h7⟩
  have g7 : ((ev1.length : Int) != (ev2.length : Int)) = true := by simp; omega
  have g8 : (ev1.length != ev2.length) = true := by simpa using h7
  clear h h7
  subst h1 h2 h3 h4 h5 h6
  go_enter Tryz.func83, Tryz.ntmps83
  go_wp2
  all_goals
    go_ret
    exact ⟨rfl, allocs4 _ _ _ _ _⟩
end Go.Proofs.YtmfhipjceeijmaaGreatDoor

/-
  Walk of Same of the document's answer, and what SameRow of it tells.
-/
namespace Go.Proofs.YtmfhipjceeijmaaGreatDoor
open Go.RowKit
attribute [local go_sem] ext_Bd ext_Bl ext_Bt toList_B add_B size_B get_Bt

set_option maxHeartbeats 4000000 in
set_option maxRecDepth 100000 in
theorem refSame_tail (ps ep : Int) (st : List UInt8) (ex se sq : Int) (xs ys : List E.Ev) (va vb : Value) (w : World) (ha : ReadsE w va xs) (hb : ReadsE w vb ys) (hne : xs.length = ys.length) (hl : xs.length ≤ 1000000) :
    Calls Tryz.prog 83 #[enV ⟨ps, ep, ⟨st, ex, se, sq, xs⟩⟩ va, enV ⟨ps, ep, ⟨st, ex, se, sq, ys⟩⟩ vb] w fun r w' => r = .returned (.bool (decide (xs = ys))) ∧ Below w.heap.size w w' := by
  obtain ⟨p, c, rfl, _, _, hx⟩ := ha
  obtain ⟨q, d, rfl, _, _, hy⟩ := hb
  have HX := Lib.hid hx; clear hx
  have HY := Lib.hid hy; clear hy
  obtain ⟨r, HR⟩ : ∃ r, Hid (decide (xs = ys) = r) := ⟨_, Lib.hid rfl⟩
  rw [HR.out]
  have hnb : ((xs.length : Int) != (ys.length : Int)) = false := by simp; omega
  have hnn : (xs.length != ys.length) = false := by simpa using hne
  have HNE := Lib.hid hne; clear hne
  dsimp only [enV]
  go_enter Tryz.func83, Tryz.ntmps83
  go_wp2
  have hB := allocs4 w (.cells #[.int .i64 ps, .int .i64 ep, .string (B st), .int .i64 ex, .int .i64 se, .int .i64 sq, .slice p xs.length c] 53) (.cells #[.int .i64 ps, .int .i64 ep, .string (B st), .int .i64 ex, .int .i64 se, .int .i64 sq, .slice q ys.length d] 53) (.cells #[.string (B st), .int .i64 ex, .int .i64 se, .int .i64 sq, .slice p xs.length c] 51) (.cells #[.string (B st), .int .i64 ex, .int .i64 se, .int .i64 sq, .slice q ys.length d] 51)
  have c2 : ((((w.alloc (.cells #[.int .i64 ps, .int .i64 ep, .string (B st), .int .i64 ex, .int .i64 se, .int .i64 sq, .slice p xs.length c] 53)).alloc (.cells #[.int .i64 ps, .int .i64 ep, .string (B st), .int .i64 ex, .int .i64 se, .int .i64 sq, .slice q ys.length d] 53)).alloc (.cells #[.string (B st), .int .i64 ex, .int .i64 se, .int .i64 sq, .slice p xs.length c] 51)).alloc (.cells #[.string (B st), .int .i64 ex, .int .i64 se, .int .i64 sq, .slice q ys.length d] 51)).cell? ⟨w.heap.size + 2, 4, none⟩ = some (.slice p xs.length c) := by
    have := box_at ((Below.refl _ (((w.alloc (.cells #[.int .i64 ps, .int .i64 ep, .string (B st), .int .i64 ex, .int .i64 se, .int .i64 sq, .slice p xs.length c] 53)).alloc (.cells #[.int .i64 ps, .int .i64 ep, .string (B st), .int .i64 ex, .int .i64 se, .int .i64 sq, .slice q ys.length d] 53)).alloc (.cells #[.string (B st), .int .i64 ex, .int .i64 se, .int .i64 sq, .slice p xs.length c] 51))).alloc (Nat.le_refl _) (.cells #[.string (B st), .int .i64 ex, .int .i64 se, .int .i64 sq, .slice q ys.length d] 51)) 4
    rw [World.size_alloc, World.size_alloc] at this
    exact this
  have c3 : ((((w.alloc (.cells #[.int .i64 ps, .int .i64 ep, .string (B st), .int .i64 ex, .int .i64 se, .int .i64 sq, .slice p xs.length c] 53)).alloc (.cells #[.int .i64 ps, .int .i64 ep, .string (B st), .int .i64 ex, .int .i64 se, .int .i64 sq, .slice q ys.length d] 53)).alloc (.cells #[.string (B st), .int .i64 ex, .int .i64 se, .int .i64 sq, .slice p xs.length c] 51)).alloc (.cells #[.string (B st), .int .i64 ex, .int .i64 se, .int .i64 sq, .slice q ys.length d] 51)).cell? ⟨w.heap.size + 3, 4, none⟩ = some (.slice q ys.length d) := by
    have := box_cells (((w.alloc (.cells #[.int .i64 ps, .int .i64 ep, .string (B st), .int .i64 ex, .int .i64 se, .int .i64 sq, .slice p xs.length c] 53)).alloc (.cells #[.int .i64 ps, .int .i64 ep, .string (B st), .int .i64 ex, .int .i64 se, .int .i64 sq, .slice q ys.length d] 53)).alloc (.cells #[.string (B st), .int .i64 ex, .int .i64 se, .int .i64 sq, .slice p xs.length c] 51)) #[.string (B st), .int .i64 ex, .int .i64 se, .int .i64 sq, .slice q ys.length d] 51 4
    rw [World.size_alloc, World.size_alloc, World.size_alloc] at this
    exact this
  generalize (((w.alloc (.cells #[.int .i64 ps, .int .i64 ep, .string (B st), .int .i64 ex, .int .i64 se, .int .i64 sq, .slice p xs.length c] 53)).alloc (.cells #[.int .i64 ps, .int .i64 ep, .string (B st), .int .i64 ex, .int .i64 se, .int .i64 sq, .slice q ys.length d] 53)).alloc (.cells #[.string (B st), .int .i64 ex, .int .i64 se, .int .i64 sq, .slice p xs.length c] 51)).alloc (.cells #[.string (B st), .int .i64 ex, .int .i64 se, .int .i64 sq, .slice q ys.length d] 51) = W at *
  go_loopw [7] (fun i wr => ∃ k : Nat, i = .int .i64 k ∧ k ≤ xs.length ∧ xs.take k = ys.take k ∧ sQuiet W wr) (fun i _ => xs.length - (intOf i).toNat)
  case atStart => exact ⟨0, rfl, Nat.zero_le _, by simp, 0, rfl⟩
  case round =>
    obtain ⟨k, rfl, hk, ht, nq, rfl⟩ := hrel
    have HT := Lib.hid ht; clear ht
    by_cases hlt : k < xs.length
    · have hlt2 : k < ys.length := by rw [← HNE.out]; exact hlt
      obtain ⟨b1, o1, rfl, p0, p1⟩ := HX.out k hlt
      obtain ⟨b2, o2, rfl, q0, q1⟩ := HY.out k hlt2
      have x0 := below_keeps2 hB p0
      have x1 := below_keeps2 hB p1
      have y0 := below_keeps2 hB q0
      have y1 := below_keeps2 hB q1
      have hi1 : (k : Int) < (xs.length : Int) := by omega
      have hi2 : (k : Int) < (ys.length : Int) := by omega
      clear p0 p1 q0 q1
      by_cases he : xs[k] = ys[k]
      · have HS := Lib.hid (ev_step hlt hlt2 HT.out he)
        have e1 : (xs[k].1 == ys[k].1) = true := by rw [he]; simp
        have e2 : (xs[k].2 == ys[k].2) = true := by rw [he]; simp
        clear he
        generalize xs[k] = x at x0 x1 e1 e2
        generalize ys[k] = y at y0 y1 e1 e2
        go_wp2
        go_quiet (fail)
        go_wp2
        go_roundw
        case rel => exact ⟨k + 1, by go_num, by omega, HS.out, _, rfl⟩
        case measure => simp [intOf]; omega
      · have HE := Lib.hid (show r = false by
          rw [← HR.out]
          exact decide_eq_false fun h => by subst h; exact he rfl)
        by_cases he1 : xs[k].1 = ys[k].1
        · have he2 : ¬ xs[k].2 = ys[k].2 := fun h => he (Prod.ext he1 h)
          have e1 : (xs[k].1 == ys[k].1) = true := beq_iff_eq.2 he1
          have e2 : (xs[k].2 == ys[k].2) = false := beq_eq_false_iff_ne.2 he2
          clear he he1 he2
          generalize xs[k] = x at x0 x1 e1 e2
          generalize ys[k] = y at y0 y1 e1 e2
          go_wp2
          go_quiet (fail)
          go_wp2
          go_ret
          rw [HE.out]
          exact ⟨rfl, below_quiet hB (quiet_two _ _ _)⟩
        · have e1 : (xs[k].1 == ys[k].1) = false := beq_eq_false_iff_ne.2 he1
          clear he he1
          generalize xs[k] = x at x0 x1 e1
          generalize ys[k] = y at y0 y1 e1
          go_wp2
          go_quiet (fail)
          go_wp2
          go_ret
          rw [HE.out]
          exact ⟨rfl, below_quiet hB (quiet_two _ _ _)⟩
    · have HE := Lib.hid (show r = true by
        rw [← HR.out]
        have h1 := HT.out
        rw [List.take_of_length_le (by omega), List.take_of_length_le (by rw [← HNE.out]; omega)] at h1
        exact decide_eq_true h1)
      go_wp2
      go_ret
      rw [HE.out]
      exact ⟨rfl, below_quiet hB ⟨_, rfl⟩⟩
theorem refSame_at (x y : R.En) (vx vy : Value) (r : Bool) (w : World) (hx : ReadsE w vx x.b.events) (hy : ReadsE w vy y.b.events) (sx : x.b.events.length ≤ 1000000) (H : Hid (R.same x y = r)) :
    Calls Tryz.prog 83 #[enV x vx, enV y vy] w fun e w' => e = .returned (.bool r) ∧ Below w.heap.size w w' := by
  rw [← H.out]
  by_cases h : x.pos = y.pos ∧ x.epoch = y.epoch ∧ x.b.stream = y.b.stream ∧ x.b.expect = y.b.expect ∧ x.b.session = y.b.session ∧ x.b.seq = y.b.seq ∧ x.b.events.length = y.b.events.length
  · obtain ⟨p1, e1, ⟨st1, ex1, se1, sq1, ev1⟩⟩ := x
    obtain ⟨p2, e2, ⟨st2, ex2, se2, sq2, ev2⟩⟩ := y
    obtain ⟨h1, h2, h3, h4, h5, h6, h7⟩ := h
    dsimp only at h1 h2 h3 h4 h5 h6 h7 hx hy sx
    subst h1 h2 h3 h4 h5 h6
    have e : R.same ⟨p1, e1, ⟨st1, ex1, se1, sq1, ev1⟩⟩ ⟨p1, e1, ⟨st1, ex1, se1, sq1, ev2⟩⟩ = decide (ev1 = ev2) := by unfold R.same E.sameB; simp
    rw [e]
    exact refSame_tail p1 e1 st1 ex1 se1 sq1 ev1 ev2 vx vy w hx hy h7 sx
  · have e : R.same x y = false := by
      cases hs : R.same x y
      · rfl
      · exfalso
        unfold R.same at hs
        simp only [Bool.and_eq_true, decide_eq_true_eq] at hs
        refine h ⟨hs.1, hs.2.1, ?_⟩
        by_cases hb : x.b.stream = y.b.stream ∧ x.b.expect = y.b.expect ∧ x.b.session = y.b.session ∧ x.b.seq = y.b.seq ∧ x.b.events = y.b.events
        · exact ⟨hb.1, hb.2.1, hb.2.2.1, hb.2.2.2.1, by rw [hb.2.2.2.2]⟩
        · rw [E.sameB_ne hb] at hs
          cases hs.2.2
    rw [e]
    exact refSame_head x y vx vy w hx hy h
end Go.Proofs.YtmfhipjceeijmaaGreatDoor

/-
  Walk of SameRow of the document's answer, of two rows that are the same.
-/
namespace Go.Proofs.YtmfhipjceeijmaaGreatDoor
open Go.RowKit
attribute [local go_sem] ext_Bd ext_Bl ext_Bt toList_B add_B size_B get_Bt

/-- Two entries in two rows, as calls leave them. -/
abbrev YY (w0 : World) (g i : Nat) (p1 e1 : Int) (s1 : List UInt8) (x1 y1 z1 : Int) (v1 : Value) (h o : Nat) (p2 e2 : Int) (s2 : List UInt8) (x2 y2 z2 : Int) (v2 : Value) (a : World) : Prop :=
  a.cell? ⟨g, i, none⟩ = some (.int .i64 p1) ∧ a.cell? ⟨g, i + 1, none⟩ = some (.int .i64 e1) ∧ a.cell? ⟨g, i + 2, none⟩ = some (.string (B s1)) ∧ a.cell? ⟨g, i + 3, none⟩ = some (.int .i64 x1) ∧ a.cell? ⟨g, i + 4, none⟩ = some (.int .i64 y1) ∧ a.cell? ⟨g, i + 5, none⟩ = some (.int .i64 z1) ∧ a.cell? ⟨g, i + 6, none⟩ = some v1 ∧
  a.cell? ⟨h, o, none⟩ = some (.int .i64 p2) ∧ a.cell? ⟨h, o + 1, none⟩ = some (.int .i64 e2) ∧ a.cell? ⟨h, o + 2, none⟩ = some (.string (B s2)) ∧ a.cell? ⟨h, o + 3, none⟩ = some (.int .i64 x2) ∧ a.cell? ⟨h, o + 4, none⟩ = some (.int .i64 y2) ∧ a.cell? ⟨h, o + 5, none⟩ = some (.int .i64 z2) ∧ a.cell? ⟨h, o + 6, none⟩ = some v2 ∧ KeptB w0 a
section
variable {w0 : World} {g i h o : Nat} {p1 e1 p2 e2 : Int} {s1 s2 : List UInt8} {x1 y1 z1 x2 y2 z2 : Int} {v1 v2 : Value} {a b : World}
theorem YY_drew (hs : YY w0 g i p1 e1 s1 x1 y1 z1 v1 h o p2 e2 s2 x2 y2 z2 v2 a) : YY w0 g i p1 e1 s1 x1 y1 z1 v1 h o p2 e2 s2 x2 y2 z2 v2 a.drew := by
  obtain ⟨h0, h1, h2, h3, h4, h5, h6, q0, q1, q2, q3, q4, q5, q6, hk⟩ := hs
  exact ⟨h0, h1, h2, h3, h4, h5, h6, q0, q1, q2, q3, q4, q5, q6, keptB_drew hk⟩
theorem YY_call (hs : YY w0 g i p1 e1 s1 x1 y1 z1 v1 h o p2 e2 s2 x2 y2 z2 v2 a) (hb : Below a.heap.size a b) : YY w0 g i p1 e1 s1 x1 y1 z1 v1 h o p2 e2 s2 x2 y2 z2 v2 b := by
  obtain ⟨h0, h1, h2, h3, h4, h5, h6, q0, q1, q2, q3, q4, q5, q6, hk⟩ := hs
  have key := below_keeps hb
  exact ⟨key _ _ h0, key _ _ h1, key _ _ h2, key _ _ h3, key _ _ h4, key _ _ h5, key _ _ h6, key _ _ q0, key _ _ q1, key _ _ q2, key _ _ q3, key _ _ q4, key _ _ q5, key _ _ q6, keptB_call hk hb⟩
theorem YY_bel (hs : YY w0 g i p1 e1 s1 x1 y1 z1 v1 h o p2 e2 s2 x2 y2 z2 v2 a) : Below w0.heap.size w0 a := hs.2.2.2.2.2.2.2.2.2.2.2.2.2.2
end
theorem same_self (x : R.En) : R.same x x = true := by
  unfold R.same E.sameB
  simp

set_option maxHeartbeats 4000000 in
set_option maxRecDepth 100000 in
theorem SameRow_true (es fs : List EV) (va vb : Value) (w : World) (ha : ReadsR w va es) (hb : ReadsR w vb fs) (he : ensOf es = ensOf fs) (hl : es.length ≤ 1000) (hs : ∀ x ∈ fs, x.1.b.events.length ≤ 1000000) :
    Calls Tryz.prog 48 #[va, vb] w fun r w' => r = .returned (.bool true) ∧ Below w.heap.size w w' := by
  have hle : es.length = fs.length := by rw [← ensOf_len es, he, ensOf_len]
  have HEI : Hid (∀ i (h1 : i < es.length) (h2 : i < fs.length), es[i].1 = fs[i].1) := Lib.hid fun i h1 h2 => by
    have e1 : (ensOf es)[i]'(by rw [ensOf_len]; exact h1) = (ensOf fs)[i]'(by rw [ensOf_len]; exact h2) := by simp only [he]
    simpa using e1
  have HA := Lib.hid ha
  have HB := Lib.hid hb
  have HSM := Lib.hid hs
  obtain ⟨aa, ca, rfl, _⟩ := ha
  obtain ⟨ab, cb, rfl, _⟩ := hb
  have HLE := Lib.hid hle
  rw [hle]
  have HA2 : Hid (ReadsR w (.slice aa fs.length ca) es) := Lib.hid (by rw [← hle]; exact HA.out)
  have hfl : fs.length ≤ 1000 := by omega
  clear hs he hle HA hl
  go_enter Tryz.func48, Tryz.ntmps48
  go_wp2
  go_loopw [5] (fun i wr => ∃ k : Nat, i = .int .i64 k ∧ k ≤ fs.length ∧ Below w.heap.size w wr) (fun i _ => fs.length - (intOf i).toNat)
  case atStart => exact ⟨0, rfl, Nat.zero_le _, Below.refl _ _⟩
  case round =>
    obtain ⟨k, rfl, hk, hbe⟩ := hrel
    have HBE := Lib.hid hbe; clear hbe
    by_cases hlt : k < fs.length
    · have hk1 : (k : Int) < (fs.length : Int) := by omega
      have hlt2 : k < es.length := by rw [HLE.out]; exact hlt
      obtain ⟨a2, c2, hva, _, _, hxa⟩ := HA2.out
      obtain ⟨a3, c3, hvb, _, _, hxb⟩ := HB.out
      obtain ⟨hrea, -, b1, o1, rfl, h7a⟩ := hxa k hlt2
      obtain ⟨hreb, -, b2, o2, rfl, h7b⟩ := hxb k hlt
      injection hva with hva1 hva2 hva3
      injection hvb with hvb1 hvb2 hvb3
      subst hva1 hvb1
      have h7a2 := h7a.keep (below_keeps HBE.out)
      have h7b2 := h7b.keep (below_keeps HBE.out)
      have hei := HEI.out k hlt2 hlt
      rw [hei] at h7a2 hrea
      have HSK := Lib.hid (HSM.out _ (List.getElem_mem hlt))
      have HREA := Lib.hid hrea
      have HREB := Lib.hid hreb
      generalize es[k].2 = ua at h7a2 hrea HREA
      generalize fs[k] = pf at h7a2 h7b2 HSK HREA HREB hrea hreb
      obtain ⟨⟨pos, ep, ⟨st, ex, se, sq, evs⟩⟩, ub⟩ := pf
      dsimp only at h7a2 h7b2 HSK HREA HREB hrea hreb
      obtain ⟨qa, qc, rfl, _⟩ := hrea
      obtain ⟨qb, qd, rfl, _⟩ := hreb
      have hYY : YY w b1 (o1 + k * 7) pos ep st ex se sq (.slice qa evs.length qc) b2 (o2 + k * 7) pos ep st ex se sq (.slice qb evs.length qd) wr := by
        obtain ⟨h0, h1, h2, h3, h4, h5, h6⟩ := h7a2
        obtain ⟨q0, q1, q2, q3, q4, q5, q6⟩ := h7b2
        exact ⟨h0, h1, h2, h3, h4, h5, h6, q0, q1, q2, q3, q4, q5, q6, HBE.out⟩
      have HQ := Lib.hid (same_self ⟨pos, ep, ⟨st, ex, se, sq, evs⟩⟩)
      clear h7a h7b h7a2 h7b2 hxa hxb hei hva2 hva3 hvb2 hvb3
      go_wp2
      go_region_held3 (fun w' => YY w b1 (o1 + k * 7) pos ep st ex se sq (.slice qa evs.length qc) b2 (o2 + k * 7) pos ep st ex se sq (.slice qb evs.length qd) w')
        (first | assumption | exact YY_drew (by assumption) | exact YY_call (by assumption) (by assumption))
        (first
          | (go_at_call 83; with_reducible refine (refSame_at ⟨pos, ep, ⟨st, ex, se, sq, evs⟩⟩ ⟨pos, ep, ⟨st, ex, se, sq, evs⟩⟩ _ _ true _ (readsE_below HREA.out (YY_bel (by assumption))) (readsE_below HREB.out (YY_bel (by assumption))) HSK.out HQ).mono ?_; rintro x w5 ⟨rfl, hb5⟩)
          | fail)
      rename_i hHeld
      have HN := Lib.hid (YY_bel hHeld)
      clear hHeld hYY
      go_wp2
      go_roundw
      case rel => exact ⟨k + 1, by go_num, by omega, HN.out⟩
      case measure => simp [intOf]; omega
    · have hki : ¬ (k : Int) < (fs.length : Int) := by omega
      go_wp2
      go_ret
      exact ⟨rfl, HBE.out⟩
end Go.Proofs.YtmfhipjceeijmaaGreatDoor
