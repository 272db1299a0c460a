/-
  Walks of loops of package text that only read: gapLength, quotedLength, firstPlain, Name, isPlain.
-/
import Derived.Test.YtnaabapahblhmaaW1
import Derived.Test.YtnaabapahblhmaaSpec2
namespace Go.Proofs.Ytnaabapahblhmaa
open Go.RowKit

abbrev L (s : ByteArray) : List UInt8 := s.data.toList
theorem L_len (s : ByteArray) : (L s).length = s.size := by simp
theorem wid_at (s : ByteArray) (pos : Nat) (h : pos < s.size) : 1 ≤ widAt s pos ∧ pos + widAt s pos ≤ s.size := by
  have h1 : pos < (L s).length := by rw [L_len]; exact h
  exact ⟨T.wid_pos _, by have := T.drop_wid h1; rw [L_len] at this; exact this⟩
theorem ne_at (s : ByteArray) (pos : Nat) (h : pos < s.size) : (L s).drop pos ≠ [] := T.drop_ne (by rw [L_len]; exact h)

theorem iter_start (w : World) (s : ByteArray) : (w.iter s 0).heap[w.heap.size]? = some (.stringIter s 0) := World.iter_heap w s 0

set_option maxHeartbeats 400000 in
theorem gapLength_any (s : ByteArray) (w : World) (hs : s.size ≤ maxLen) :
    Calls Try.prog 34 #[.string s] w fun e w' => e = .returned (.int .i64 (T.gap (L s))) ∧ Below w.heap.size w w' := by
  unfold maxLen at hs
  go_enter Try.func34, Try.ntmps34
  go_wp2
  go_loopw [] (fun wr => ∃ pos : Nat, wr.heap[w.heap.size]? = some (.stringIter s pos) ∧ Below w.heap.size w wr ∧ pos ≤ s.size ∧ T.gap (L s) = T.gap ((L s).drop pos) + pos) (fun wr => s.size - wr.iterPos w.heap.size)
  case atStart => exact ⟨0, iter_start w s, (Below.refl _ w).alloc (Nat.le_refl _) _, by omega, by simp⟩
  case round =>
    obtain ⟨pos, hit, hbw, hle, hg⟩ := hrel
    have HG := Lib.hid hg; clear hg
    by_cases hp : pos < s.size
    · have hnx : ∀ ty, (Instr.next (.pointer (some ⟨w.heap.size, 0, none⟩)) true ty).run Try.prog wr = _ := fun ty => next_at wr w.heap.size s pos ty hit hp
      have hwd := wid_at s pos hp
      have hne := ne_at s pos hp
      have HNE := Lib.hid hne; clear hne
      by_cases hr : rawAt s pos = 32 ∨ rawAt s pos = 9
      · have hb : (rawAt s pos == 32 || rawAt s pos == 9) = true := by simpa using hr
        have hgo := T.gap_go HNE.out hr
        have HR := Lib.hid hr; clear hr
        have HGO := Lib.hid hgo; clear hgo
        have hit2 := Lib.iterAt_heap wr w.heap.size s pos (pos + widAt s pos) hit
        have hbw2 := Lib.below_iterAt hbw (k := w.heap.size) (Nat.le_refl _) s (pos + widAt s pos)
        go_wp2_with (go_at_call 44; refine (isGap_any _ _).mono ?_; rintro e w' ⟨rfl, rfl⟩)
        go_roundw
        case rel =>
          refine ⟨pos + widAt s pos, hit2, hbw2, hwd.2, ?_⟩
          rw [HG.out, HGO.out.2, List.drop_drop]
          have : widAt s pos = 1 := HGO.out.1
          rw [this]; omega
        case measure =>
          simp only [World.iterPos, hit2, hit]
          omega
      · have hb : (rawAt s pos == 32 || rawAt s pos == 9) = false := by simpa using hr
        have hst := T.gap_stop HNE.out hr
        have HST := Lib.hid hst; clear hst
        have hbw2 := Lib.below_iterAt hbw (k := w.heap.size) (Nat.le_refl _) s (pos + widAt s pos)
        clear hr
        go_wp2_with (go_at_call 44; refine (isGap_any _ _).mono ?_; rintro e w' ⟨rfl, rfl⟩)
        go_ret
        exact ⟨ret_int (by rw [HG.out, HST.out]; simp), hbw2⟩
    · have hnx : ∀ ty, (Instr.next (.pointer (some ⟨w.heap.size, 0, none⟩)) true ty).run Try.prog wr = _ := fun ty => Lib.run_next_end_at wr w.heap.size s pos ty hit hp
      go_wp2
      go_ret
      refine ⟨ret_int ?_, hbw⟩
      rw [HG.out, List.drop_of_length_le (by rw [L_len]; omega)]
      simp [T.gap]; omega

def B (l : List UInt8) : ByteArray := ⟨l.toArray⟩
theorem L_B (l : List UInt8) : L (B l) = l := by simp [B, L]
theorem B_L (s : ByteArray) : B (L s) = s := by simp [B, L]
theorem size_B (l : List UInt8) : (B l).size = l.length := by rw [← L_len, L_B]
theorem ext_B (s : ByteArray) (a b : Nat) : s.extract a b = B (((L s).drop a).take (b - a)) := by
  rw [← B_L (s.extract a b)]; exact congrArg B (ext_list s a b)

def qTot (l : List UInt8) : Option Nat := (T.qLen false (l.drop 1)).map (· + 1)
theorem qTot_le {l : List UInt8} {n : Nat} (h : qTot l = some n) : 2 ≤ n ∧ n ≤ l.length := by
  simp only [qTot, Option.map_eq_some_iff] at h
  obtain ⟨k, hk, rfl⟩ := h
  have := T.qLen_le _ _ _ hk
  simp at this; omega
def qRel (l : List UInt8) (pos : Nat) (b : Bool) : Prop := (pos = 0 ∧ b = false) ∨ (1 ≤ pos ∧ qTot l = (T.qLen b (l.drop pos)).map (· + pos))

theorem qRel_first {l : List UInt8} : qRel l 1 false := .inr ⟨Nat.le_refl _, rfl⟩
theorem qRel_map {l : List UInt8} {pos k : Nat} {b b' : Bool} (hp : ¬ pos = 0) (h : qRel l pos b) (hq : T.qLen b (l.drop pos) = (T.qLen b' ((l.drop pos).drop k)).map (· + k)) : qRel l (pos + k) b' := by
  rcases h with ⟨a, _⟩ | ⟨a, e⟩
  · exact absurd a hp
  · refine .inr ⟨by omega, ?_⟩
    rw [e, hq, Option.map_map, List.drop_drop]
    congr 1; funext x; simp; omega
theorem qRel_end {l : List UInt8} {pos k : Nat} {b : Bool} (hp : ¬ pos = 0) (h : qRel l pos b) (hq : T.qLen b (l.drop pos) = some k) : qTot l = some (pos + k) := by
  rcases h with ⟨a, _⟩ | ⟨a, e⟩
  · exact absurd a hp
  · rw [e, hq]; simp; omega

theorem qRel_zero {l : List UInt8} {pos : Nat} {b : Bool} (hp : pos = 0) (h : qRel l pos b) : b = false := by
  rcases h with ⟨_, e⟩ | ⟨a, _⟩
  · exact e
  · omega
theorem qRel_out {l : List UInt8} {pos : Nat} {b : Bool} (hp : pos ≠ 0) (hl : l.length ≤ pos) (h : qRel l pos b) : qTot l = none := by
  rcases h with ⟨a, _⟩ | ⟨_, e⟩
  · exact absurd a hp
  · rw [e, List.drop_of_length_le hl]; cases b <;> rfl
theorem wid_quote (s : ByteArray) (pos : Nat) (hp : pos = 0) (h : rawAt s 0 = 34) : widAt s pos = 1 := by
  subst hp
  unfold rawAt widAt at *
  change T.raw ((L s).drop 0) = 34 at h
  rcases T.kind ((L s).drop 0) with ⟨_, _, _, d⟩ | ⟨_, _, _, d⟩ | ⟨_, _, b, d, _⟩
  · exact d
  · exact d
  · omega

set_option maxHeartbeats 400000 in
theorem quotedLength_any (s : ByteArray) (w : World) (hs : s.size ≤ maxLen) (h1 : 0 < s.size) (hq : rawAt s 0 = 34) :
    Calls Try.prog 48 #[.string s] w fun e w' => e = .returned (.tuple #[.int .i64 ((qTot (L s)).getD 0), .bool (qTot (L s)).isSome]) ∧ Below w.heap.size w w' := by
  unfold maxLen at hs
  have HQ := Lib.hid hq; clear hq
  go_enter Try.func48, Try.ntmps48
  go_wp2
  go_loopw [4] (fun esc wr => ∃ (pos : Nat) (b : Bool), wr.heap[w.heap.size]? = some (.stringIter s pos) ∧ Below w.heap.size w wr ∧ pos ≤ s.size ∧ esc = .bool b ∧ qRel (L s) pos b) (fun _ wr => s.size - wr.iterPos w.heap.size)
  case atStart => exact ⟨0, false, iter_start w s, (Below.refl _ w).alloc (Nat.le_refl _) _, by omega, rfl, .inl ⟨rfl, rfl⟩⟩
  case round =>
    obtain ⟨pos, b, hit, hbw, hle, rfl, hg⟩ := hrel
    have HG := Lib.hid hg; clear hg
    by_cases hp : pos < s.size
    · have hnx : ∀ ty, (Instr.next (.pointer (some ⟨w.heap.size, 0, none⟩)) true ty).run Try.prog wr = _ := fun ty => next_at wr w.heap.size s pos ty hit hp
      have hwd := wid_at s pos hp
      have hne := ne_at s pos hp
      have HNE := Lib.hid hne; clear hne
      have hit2 := Lib.iterAt_heap wr w.heap.size s pos (pos + widAt s pos) hit
      have hbw2 := Lib.below_iterAt hbw (k := w.heap.size) (Nat.le_refl _) s (pos + widAt s pos)
      by_cases h0 : pos = 0
      · have hz : ((pos : Int) == 0) = true := beq_iff_eq.2 (by omega)
        have HW := Lib.hid (wid_quote s pos h0 HQ.out)
        have HB := Lib.hid (qRel_zero h0 HG.out)
        have H0 := Lib.hid h0; clear h0
        go_wp2
        go_roundw
        case rel =>
          refine ⟨pos + widAt s pos, b, hit2, hbw2, hwd.2, rfl, ?_⟩
          rw [HW.out, H0.out, HB.out]; exact qRel_first
        case measure =>
          simp only [World.iterPos, hit2, hit]
          omega
      · have hz : ((pos : Int) == 0) = false := beq_eq_false_iff_ne.2 (by omega)
        cases b
        · by_cases c1 : rawAt s pos = 92
          · have hc : (rawAt s pos == 92) = true := beq_iff_eq.2 c1
            have HS := Lib.hid (T.qLen_back HNE.out c1)
            clear c1
            go_wp2
            go_roundw
            case rel =>
              refine ⟨pos + widAt s pos, true, hit2, hbw2, hwd.2, rfl, ?_⟩
              have e1 : widAt s pos = 1 := HS.out.1
              rw [e1]; exact qRel_map h0 HG.out HS.out.2
            case measure =>
              simp only [World.iterPos, hit2, hit]
              omega
          · have hc : (rawAt s pos == 92) = false := beq_eq_false_iff_ne.2 c1
            by_cases c2 : rawAt s pos = 34
            · have hc2 : (rawAt s pos == 34) = true := beq_iff_eq.2 c2
              have HS := Lib.hid (T.qLen_end HNE.out c2)
              clear c1 c2
              go_wp2
              go_ret2
              have e1 := qRel_end h0 HG.out HS.out.2
              rw [e1]
              exact ⟨rfl, hbw2⟩
            · have hc2 : (rawAt s pos == 34) = false := beq_eq_false_iff_ne.2 c2
              have HS := Lib.hid (T.qLen_go HNE.out c2 c1)
              clear c1 c2
              go_wp2
              go_roundw
              case rel => exact ⟨pos + widAt s pos, false, hit2, hbw2, hwd.2, rfl, qRel_map h0 HG.out HS.out⟩
              case measure =>
                simp only [World.iterPos, hit2, hit]
                omega
        · have HS := Lib.hid (T.qLen_esc HNE.out)
          go_wp2
          go_roundw
          case rel => exact ⟨pos + widAt s pos, false, hit2, hbw2, hwd.2, rfl, qRel_map h0 HG.out HS.out⟩
          case measure =>
            simp only [World.iterPos, hit2, hit]
            omega
    · have hnx : ∀ ty, (Instr.next (.pointer (some ⟨w.heap.size, 0, none⟩)) true ty).run Try.prog wr = _ := fun ty => Lib.run_next_end_at wr w.heap.size s pos ty hit hp
      have HE := Lib.hid (qRel_out (by omega) (by rw [L_len]; omega) HG.out)
      go_wp2
      go_ret2
      rw [HE.out]
      exact ⟨rfl, hbw⟩
end Go.Proofs.Ytnaabapahblhmaa
