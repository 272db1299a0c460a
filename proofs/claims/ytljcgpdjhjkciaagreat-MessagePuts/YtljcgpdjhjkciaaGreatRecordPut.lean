/-
  Walks of Put and PutRow, of package record and of the document's answer.
-/
import Derived.Test.YtljcgpdjhjkciaaGreatRecordRef
import Derived.Test.YtljcgpdjhjkciaaGreatEventProg3
import Derived.Test.YtljcgpdjhjkciaaGreatRecordRight
import Derived.Test.YtljcgpdjhjkciaaGreatRecordMarks
import Derived.Test.YtljcgpdjhjkciaaGreatEventRef2
namespace Go.Proofs.YtljcgpdjhjkciaaGreat
open Go.RowKit
attribute [local go_sem] ext_Bd ext_Bl ext_Bt toList_B add_B size_B get_Bt

/-- An entry in a box, as calls leave it. -/
abbrev X7 (w0 : World) (g : Nat) (pos ep : Int) (st : List UInt8) (ex se sq : Int) (v : Value) (a : World) : Prop :=
  a.cell? ⟨g, 0, none⟩ = some (.int .i64 pos) ∧ a.cell? ⟨g, 1, none⟩ = some (.int .i64 ep) ∧ a.cell? ⟨g, 2, none⟩ = some (.string (B st)) ∧ a.cell? ⟨g, 3, none⟩ = some (.int .i64 ex) ∧ a.cell? ⟨g, 4, none⟩ = some (.int .i64 se) ∧ a.cell? ⟨g, 5, none⟩ = some (.int .i64 sq) ∧ a.cell? ⟨g, 6, none⟩ = some v ∧ KeptB w0 a
section
variable {w0 a b : World} {g : Nat} {pos ep : Int} {st : List UInt8} {ex se sq : Int} {v : Value}
theorem X7_drew (h : X7 w0 g pos ep st ex se sq v a) : X7 w0 g pos ep st ex se sq v a.drew := by
  obtain ⟨h0, h1, h2, h3, h4, h5, h6, hk⟩ := h
  exact ⟨h0, h1, h2, h3, h4, h5, h6, keptB_drew hk⟩
theorem X7_call (h : X7 w0 g pos ep st ex se sq v a) (hb : Below a.heap.size a b) : X7 w0 g pos ep st ex se sq v b := by
  obtain ⟨h0, h1, h2, h3, h4, h5, h6, hk⟩ := h
  have key := below_keeps hb
  exact ⟨key _ _ h0, key _ _ h1, key _ _ h2, key _ _ h3, key _ _ h4, key _ _ h5, key _ _ h6, keptB_call hk hb⟩
theorem X7_bel (h : X7 w0 g pos ep st ex se sq v a) : Below w0.heap.size w0 a := h.2.2.2.2.2.2.2
theorem X7_box {w w1 : World} {t : TypeId} (hb : Below (w.alloc (.cells #[.int .i64 pos, .int .i64 ep, .string (B st), .int .i64 ex, .int .i64 se, .int .i64 sq, v] t)).heap.size (w.alloc (.cells #[.int .i64 pos, .int .i64 ep, .string (B st), .int .i64 ex, .int .i64 se, .int .i64 sq, v] t)) w1) : X7 w w.heap.size pos ep st ex se sq v w1 :=
  ⟨by rw [box_at hb]; rfl, by rw [box_at hb]; rfl, by rw [box_at hb]; rfl, by rw [box_at hb]; rfl, by rw [box_at hb]; rfl, by rw [box_at hb]; rfl, by rw [box_at hb]; rfl, below_box hb⟩
end

set_option maxHeartbeats 2000000 in
set_option maxRecDepth 100000 in
theorem bytesOf_at (e : R.En) (v : Value) (s : List UInt8) (w : World) (hv : ReadsE w v e.b.events) (hs : E.Small e.b) (hr : R.right e = true) (H : Hid (R.bytes e = s)) :
    Calls Tryz.prog 87 #[enV e v] w fun x w' => x = .returned (.string (B s)) ∧ Below w.heap.size w w' := by
  have hfit := (R.right_iff.1 hr).2.2.2.2
  obtain ⟨pos, ep, ⟨st, ex, se, sq, evs⟩⟩ := e
  dsimp only at hv hs hfit ⊢
  obtain ⟨a1, H1⟩ : ∃ a, Hid (N.putL (N.held pos) = a) := ⟨_, Lib.hid rfl⟩
  obtain ⟨a2, H2⟩ : ∃ a, Hid (N.putL (N.held ep) = a) := ⟨_, Lib.hid rfl⟩
  obtain ⟨a3, H3⟩ : ∃ a, Hid (E.putBat ⟨st, ex, se, sq, evs⟩ = a) := ⟨_, Lib.hid rfl⟩
  have l1 : a1.length ≤ 6 := by have := N.putL_len6 (N.held_le pos); rw [H1.out] at this; exact this
  have l2 : a2.length ≤ 6 := by have := N.putL_len6 (N.held_le ep); rw [H2.out] at this; exact this
  have l3 : a3.length ≤ 20000 := by have := E.bytes_len hfit; rw [← E.putBat_ok hfit, H3.out] at this; exact this
  have HE : Hid (s = a1 ++ (a2 ++ a3)) := Lib.hid (by rw [← H.out]; unfold R.bytes; rw [H1.out, H2.out, ← H3.out, E.putBat_ok hfit])
  have k1 := cat_run (a := a1) (c := a2) (by omega)
  have k2 := cat_run (a := a1 ++ a2) (c := a3) (by simp only [List.length_append]; omega)
  simp only [List.append_assoc] at k1 k2
  have HV := Lib.hid hv
  have HS := Lib.hid hs
  obtain ⟨a, cap, rfl, _⟩ := hv
  clear hs H hr hfit
  go_enter Tryz.func87, Tryz.ntmps87
  go_wp2
  have hS : X7 w w.heap.size pos ep st ex se sq (.slice a evs.length cap) (w.alloc (.cells #[.int .i64 pos, .int .i64 ep, .string (B st), .int .i64 ex, .int .i64 se, .int .i64 sq, .slice a evs.length cap] 53)) := X7_box (Below.refl _ _)
  generalize w.alloc (.cells #[.int .i64 pos, .int .i64 ep, .string (B st), .int .i64 ex, .int .i64 se, .int .i64 sq, .slice a evs.length cap] 53) = w1 at *
  go_region_held3 (fun w' => X7 w w.heap.size pos ep st ex se sq (.slice a evs.length cap) w')
    (first | assumption | exact X7_drew (by assumption) | exact X7_call (by assumption) (by assumption))
    (first
      | (go_at_call 62; with_reducible refine (Put_any_at pos a1 _ H1).mono ?_; rintro x w4 ⟨rfl, hb4⟩)
      | (go_at_call 62; with_reducible refine (Put_any_at ep a2 _ H2).mono ?_; rintro x w5 ⟨rfl, hb5⟩)
      | (go_at_call 40; with_reducible refine (EPutBat_at ⟨st, ex, se, sq, evs⟩ _ a3 _ (readsE_below HV.out (X7_bel (by assumption))) HS.out H3).mono ?_; rintro x w6 ⟨rfl, hb6⟩)
      | fail)
  rename_i hHeld
  have HB := Lib.hid (X7_bel hHeld)
  clear hHeld hS k1 k2
  go_wp2
  go_ret
  rw [HE.out]
  exact ⟨rfl, HB.out⟩

set_option maxHeartbeats 1000000 in
set_option maxRecDepth 100000 in
theorem Put6_at (e : R.En) (v : Value) (s : List UInt8) (w : World) (hv : ReadsE w v e.b.events) (hs : E.Small e.b) (H : Hid (R.putEn e = s)) :
    Calls Tryz.prog 63 #[enV e v] w fun x w' => x = .returned (.string (B s)) ∧ Below w.heap.size w w' := by
  obtain ⟨r, HR⟩ : ∃ r, Hid (R.right e = r) := ⟨_, Lib.hid rfl⟩
  have HV := Lib.hid hv
  have HS := Lib.hid hs
  obtain ⟨a, cap, rfl, _⟩ := hv
  clear hs
  go_enter Tryz.func63, Tryz.ntmps63
  go_wp2_with fail
  refine (Right6_at e _ r _ (readsE_below HV.out ((Below.refl _ w).alloc (Nat.le_refl _) _)) HS.out HR).mono ?_
  rintro x w1 ⟨rfl, hb1⟩
  obtain ⟨c0, c1, c2, c3, c4, c5, c6, hk⟩ := X7_box hb1
  have HB := Lib.hid (below_box hb1)
  clear hb1 hk
  cases r
  · have HE := Lib.hid (show s = [] by rw [← H.out]; exact R.putEn_bad HR.out)
    go_wp2
    go_ret
    rw [HE.out]
    exact ⟨rfl, HB.out⟩
  · have HE : Hid (R.bytes e = s) := Lib.hid (by rw [← H.out]; exact (R.putEn_ok HR.out).symm)
    go_wp2_with fail
    refine (bytesOf_at e _ s w1 (readsE_below HV.out HB.out) HS.out HR.out HE).mono ?_
    rintro x w2 ⟨rfl, hb2⟩
    have HB2 := Lib.hid (HB.out.trans (hb2.mono HB.out.size))
    clear hb2
    go_wp2
    go_ret
    exact ⟨rfl, HB2.out⟩

set_option maxHeartbeats 2000000 in
set_option maxRecDepth 100000 in
theorem refPut6_at (e : R.En) (v : Value) (s : List UInt8) (w : World) (hv : ReadsE w v e.b.events) (hs : E.Tiny e.b) (H : Hid (R.putEn e = s)) :
    Calls Tryz.prog 45 #[enV e v] w fun x w' => x = .returned (.string (B s)) ∧ Below w.heap.size w w' := by
  obtain ⟨r, HR⟩ : ∃ r, Hid (R.right e = r) := ⟨_, Lib.hid rfl⟩
  have HV := Lib.hid hv
  have HS := Lib.hid hs
  obtain ⟨a, cap, rfl, _⟩ := hv
  clear hs
  obtain ⟨pos, ep, ⟨st, ex, se, sq, evs⟩⟩ := e
  dsimp only at HV HS ⊢
  go_enter Tryz.func45, Tryz.ntmps45
  go_wp2_with fail
  refine (refRight6_at ⟨pos, ep, ⟨st, ex, se, sq, evs⟩⟩ _ r _ (readsE_below HV.out ((Below.refl _ w).alloc (Nat.le_refl _) _)) HS.out HR).mono ?_
  rintro x w1 ⟨rfl, hb1⟩
  have hS : X7 w w.heap.size pos ep st ex se sq (.slice a evs.length cap) w1 := X7_box hb1
  have HB := Lib.hid (below_box hb1)
  clear hb1
  cases r
  · have HE := Lib.hid (show s = [] by rw [← H.out]; exact R.putEn_bad HR.out)
    go_wp2
    go_ret
    rw [HE.out]
    exact ⟨rfl, HB.out⟩
  · have hfit : E.fits ⟨st, ex, se, sq, evs⟩ = 0 := (R.right_iff.1 HR.out).2.2.2.2
    obtain ⟨a1, H1⟩ : ∃ a, Hid (N.putL (N.held pos) = a) := ⟨_, Lib.hid rfl⟩
    obtain ⟨a2, H2⟩ : ∃ a, Hid (N.putL (N.held ep) = a) := ⟨_, Lib.hid rfl⟩
    obtain ⟨a3, H3⟩ : ∃ a, Hid (E.bytes ⟨st, ex, se, sq, evs⟩ = a) := ⟨_, Lib.hid rfl⟩
    have l1 : a1.length ≤ 6 := by have := N.putL_len6 (N.held_le pos); rw [H1.out] at this; exact this
    have l2 : a2.length ≤ 6 := by have := N.putL_len6 (N.held_le ep); rw [H2.out] at this; exact this
    have l3 : a3.length ≤ 20000 := by have := E.bytes_len hfit; rw [H3.out] at this; exact this
    have HE : Hid (s = a1 ++ (a2 ++ a3)) := Lib.hid (by rw [← H.out, R.putEn_ok HR.out]; unfold R.bytes; rw [H1.out, H2.out, H3.out])
    have k1 := cat_run (a := a1) (c := a2) (by omega)
    have k2 := cat_run (a := a1 ++ a2) (c := a3) (by simp only [List.length_append]; omega)
    simp only [List.append_assoc] at k1 k2
    have HPB : Hid (∀ w', X7 w w.heap.size pos ep st ex se sq (.slice a evs.length cap) w' → Calls Tryz.prog 27 #[batV ⟨st, ex, se, sq, evs⟩ (.slice a evs.length cap)] w' fun r w'' => r = .returned (.string (B a3)) ∧ Below w'.heap.size w' w'') := Lib.hid fun w' h => by
      rw [← H3.out]; exact refPutBat_ok ⟨st, ex, se, sq, evs⟩ _ w' (readsE_below HV.out (X7_bel h)) hfit
    clear hfit H
    go_wp2
    go_region_held3 (fun w' => X7 w w.heap.size pos ep st ex se sq (.slice a evs.length cap) w')
      (first | assumption | exact X7_drew (by assumption) | exact X7_call (by assumption) (by assumption))
      (first
        | (go_at_call 24; with_reducible refine (refNPut_at pos a1 _ H1).mono ?_; rintro x w4 ⟨rfl, hb4⟩)
        | (go_at_call 24; with_reducible refine (refNPut_at ep a2 _ H2).mono ?_; rintro x w5 ⟨rfl, hb5⟩)
        | (go_at_call 27; with_reducible refine (HPB.out _ (by assumption)).mono ?_; rintro x w6 ⟨rfl, hb6⟩)
        | fail)
    rename_i hHeld
    have HB2 := Lib.hid (X7_bel hHeld)
    clear hHeld hS k1 k2
    go_wp2
    go_ret
    rw [HE.out]
    exact ⟨rfl, HB2.out⟩
end Go.Proofs.YtljcgpdjhjkciaaGreat
