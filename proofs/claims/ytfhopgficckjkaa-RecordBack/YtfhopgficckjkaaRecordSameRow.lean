/-
  Walk of SameRow of the document's answer, of two rows that are the same.
-/
import Derived.Test.YtfhopgficckjkaaRecordSame2
import Derived.Test.YtfhopgficckjkaaRecordSlice
namespace Go.Proofs.Ytfhopgficckjkaa
open Go.RowKit
attribute [local go_sem] ext_Bd ext_Bl ext_Bt toList_B add_B size_B get_Bt

/-- Two entries in two rows, as calls leave them. -/
abbrev YY (w0 : World) (g i : Nat) (p1 e1 : Int) (s1 : List UInt8) (x1 y1 z1 : Int) (v1 : Value) (h o : Nat) (p2 e2 : Int) (s2 : List UInt8) (x2 y2 z2 : Int) (v2 : Value) (a : World) : Prop :=
  a.cell? ⟨g, i, none⟩ = some (.int .i64 p1) ∧ a.cell? ⟨g, i + 1, none⟩ = some (.int .i64 e1) ∧ a.cell? ⟨g, i + 2, none⟩ = some (.string (B s1)) ∧ a.cell? ⟨g, i + 3, none⟩ = some (.int .i64 x1) ∧ a.cell? ⟨g, i + 4, none⟩ = some (.int .i64 y1) ∧ a.cell? ⟨g, i + 5, none⟩ = some (.int .i64 z1) ∧ a.cell? ⟨g, i + 6, none⟩ = some v1 ∧
  a.cell? ⟨h, o, none⟩ = some (.int .i64 p2) ∧ a.cell? ⟨h, o + 1, none⟩ = some (.int .i64 e2) ∧ a.cell? ⟨h, o + 2, none⟩ = some (.string (B s2)) ∧ a.cell? ⟨h, o + 3, none⟩ = some (.int .i64 x2) ∧ a.cell? ⟨h, o + 4, none⟩ = some (.int .i64 y2) ∧ a.cell? ⟨h, o + 5, none⟩ = some (.int .i64 z2) ∧ a.cell? ⟨h, o + 6, none⟩ = some v2 ∧ KeptB w0 a
section
variable {w0 : World} {g i h o : Nat} {p1 e1 p2 e2 : Int} {s1 s2 : List UInt8} {x1 y1 z1 x2 y2 z2 : Int} {v1 v2 : Value} {a b : World}
theorem YY_drew (hs : YY w0 g i p1 e1 s1 x1 y1 z1 v1 h o p2 e2 s2 x2 y2 z2 v2 a) : YY w0 g i p1 e1 s1 x1 y1 z1 v1 h o p2 e2 s2 x2 y2 z2 v2 a.drew := by
  obtain ⟨h0, h1, h2, h3, h4, h5, h6, q0, q1, q2, q3, q4, q5, q6, hk⟩ := hs
  exact ⟨h0, h1, h2, h3, h4, h5, h6, q0, q1, q2, q3, q4, q5, q6, keptB_drew hk⟩
theorem YY_call (hs : YY w0 g i p1 e1 s1 x1 y1 z1 v1 h o p2 e2 s2 x2 y2 z2 v2 a) (hb : Below a.heap.size a b) : YY w0 g i p1 e1 s1 x1 y1 z1 v1 h o p2 e2 s2 x2 y2 z2 v2 b := by
  obtain ⟨h0, h1, h2, h3, h4, h5, h6, q0, q1, q2, q3, q4, q5, q6, hk⟩ := hs
  have key := below_keeps hb
  exact ⟨key _ _ h0, key _ _ h1, key _ _ h2, key _ _ h3, key _ _ h4, key _ _ h5, key _ _ h6, key _ _ q0, key _ _ q1, key _ _ q2, key _ _ q3, key _ _ q4, key _ _ q5, key _ _ q6, keptB_call hk hb⟩
theorem YY_bel (hs : YY w0 g i p1 e1 s1 x1 y1 z1 v1 h o p2 e2 s2 x2 y2 z2 v2 a) : Below w0.heap.size w0 a := hs.2.2.2.2.2.2.2.2.2.2.2.2.2.2
end
theorem same_self (x : R.En) : R.same x x = true := by
  unfold R.same E.sameB
  simp

set_option maxHeartbeats 4000000 in
set_option maxRecDepth 100000 in
theorem SameRow_true (es fs : List EV) (va vb : Value) (w : World) (ha : ReadsR w va es) (hb : ReadsR w vb fs) (he : ensOf es = ensOf fs) (hl : es.length ≤ 1000) (hs : ∀ x ∈ fs, E.Small x.1.b) :
    Calls Try.prog 29 #[va, vb] w fun r w' => r = .returned (.bool true) ∧ Below w.heap.size w w' := by
  have hle : es.length = fs.length := by rw [← ensOf_len es, he, ensOf_len]
  have HEI : Hid (∀ i (h1 : i < es.length) (h2 : i < fs.length), es[i].1 = fs[i].1) := Lib.hid fun i h1 h2 => by
    have e1 : (ensOf es)[i]'(by rw [ensOf_len]; exact h1) = (ensOf fs)[i]'(by rw [ensOf_len]; exact h2) := by simp only [he]
    simpa using e1
  have HA := Lib.hid ha
  have HB := Lib.hid hb
  have HSM := Lib.hid hs
  obtain ⟨aa, ca, rfl, _⟩ := ha
  obtain ⟨ab, cb, rfl, _⟩ := hb
  have HLE := Lib.hid hle
  rw [hle]
  have HA2 : Hid (ReadsR w (.slice aa fs.length ca) es) := Lib.hid (by rw [← hle]; exact HA.out)
  have hfl : fs.length ≤ 1000 := by omega
  clear hs he hle HA hl
  go_enter Try.func29, Try.ntmps29
  go_wp2
  go_loopw [5] (fun i wr => ∃ k : Nat, i = .int .i64 k ∧ k ≤ fs.length ∧ Below w.heap.size w wr) (fun i _ => fs.length - (intOf i).toNat)
  case atStart => exact ⟨0, rfl, Nat.zero_le _, Below.refl _ _⟩
  case round =>
    obtain ⟨k, rfl, hk, hbe⟩ := hrel
    have HBE := Lib.hid hbe; clear hbe
    by_cases hlt : k < fs.length
    · have hk1 : (k : Int) < (fs.length : Int) := by omega
      have hlt2 : k < es.length := by rw [HLE.out]; exact hlt
      obtain ⟨a2, c2, hva, _, _, hxa⟩ := HA2.out
      obtain ⟨a3, c3, hvb, _, _, hxb⟩ := HB.out
      obtain ⟨hrea, -, b1, o1, rfl, h7a⟩ := hxa k hlt2
      obtain ⟨hreb, -, b2, o2, rfl, h7b⟩ := hxb k hlt
      injection hva with hva1 hva2 hva3
      injection hvb with hvb1 hvb2 hvb3
      subst hva1 hvb1
      have h7a2 := h7a.keep (below_keeps HBE.out)
      have h7b2 := h7b.keep (below_keeps HBE.out)
      have hei := HEI.out k hlt2 hlt
      rw [hei] at h7a2 hrea
      have HSK := Lib.hid (HSM.out _ (List.getElem_mem hlt))
      have HREA := Lib.hid hrea
      have HREB := Lib.hid hreb
      generalize es[k].2 = ua at h7a2 hrea HREA
      generalize fs[k] = pf at h7a2 h7b2 HSK HREA HREB hrea hreb
      obtain ⟨⟨pos, ep, ⟨st, ex, se, sq, evs⟩⟩, ub⟩ := pf
      dsimp only at h7a2 h7b2 HSK HREA HREB hrea hreb
      obtain ⟨qa, qc, rfl, _⟩ := hrea
      obtain ⟨qb, qd, rfl, _⟩ := hreb
      have hYY : YY w b1 (o1 + k * 7) pos ep st ex se sq (.slice qa evs.length qc) b2 (o2 + k * 7) pos ep st ex se sq (.slice qb evs.length qd) wr := by
        obtain ⟨h0, h1, h2, h3, h4, h5, h6⟩ := h7a2
        obtain ⟨q0, q1, q2, q3, q4, q5, q6⟩ := h7b2
        exact ⟨h0, h1, h2, h3, h4, h5, h6, q0, q1, q2, q3, q4, q5, q6, HBE.out⟩
      have HQ := Lib.hid (same_self ⟨pos, ep, ⟨st, ex, se, sq, evs⟩⟩)
      clear h7a h7b h7a2 h7b2 hxa hxb hei hva2 hva3 hvb2 hvb3
      go_wp2
      go_region_held3 (fun w' => YY w b1 (o1 + k * 7) pos ep st ex se sq (.slice qa evs.length qc) b2 (o2 + k * 7) pos ep st ex se sq (.slice qb evs.length qd) w')
        (first | assumption | exact YY_drew (by assumption) | exact YY_call (by assumption) (by assumption))
        (first
          | (go_at_call 13; with_reducible refine (refSame_at ⟨pos, ep, ⟨st, ex, se, sq, evs⟩⟩ ⟨pos, ep, ⟨st, ex, se, sq, evs⟩⟩ _ _ true _ (readsE_below HREA.out (YY_bel (by assumption))) (readsE_below HREB.out (YY_bel (by assumption))) HSK.out HQ).mono ?_; rintro x w5 ⟨rfl, hb5⟩)
          | fail)
      rename_i hHeld
      have HN := Lib.hid (YY_bel hHeld)
      clear hHeld hYY
      go_wp2
      go_roundw
      case rel => exact ⟨k + 1, by go_num, by omega, HN.out⟩
      case measure => simp [intOf]; omega
    · have hki : ¬ (k : Int) < (fs.length : Int) := by omega
      go_wp2
      go_ret
      exact ⟨rfl, HBE.out⟩
end Go.Proofs.Ytfhopgficckjkaa
