/-
  Walks of firstPlain, Name, isPlain of package text.
-/
import Derived.Test.YtnaabapahblhmaaW2
namespace Go.Proofs.Ytnaabapahblhmaa
open Go.RowKit

set_option maxHeartbeats 400000 in
theorem clone_any (s : ByteArray) (w : World) (hs : s.size ≤ 1000000) :
    Calls Try.prog 49 #[.string s] w fun e w' => e = .returned (.string s) ∧ Below w.heap.size w w' := by
  go_enter Try.func49, Try.ntmps49
  go_wp2_with fail
  refine (Try.stringslite_Clone s w (by omega)).mono ?_
  rintro e w' ⟨rfl, hb⟩
  go_wp2
  go_ret
  exact ⟨rfl, hb⟩

def fpRes (l : List UInt8) : Value :=
  match T.plainLen l with
  | none => .tuple #[.string (B []), .int .i64 0, .int .i64 2]
  | some n => .tuple #[.string (B (l.take n)), .int .i64 n, .int .i64 0]
theorem fpRes_none {l : List UInt8} (h : T.plainLen l = none) : fpRes l = .tuple #[.string (B []), .int .i64 0, .int .i64 2] := by simp [fpRes, h]
theorem fpRes_some {l : List UInt8} {n : Nat} (h : T.plainLen l = some n) : fpRes l = .tuple #[.string (B (l.take n)), .int .i64 n, .int .i64 0] := by simp [fpRes, h]

theorem fpRes_ext {s : ByteArray} {n : Nat} (h : T.plainLen (L s) = some n) : fpRes (L s) = .tuple #[.string (s.extract 0 n), .int .i64 n, .int .i64 0] := by
  rw [fpRes_some h, ext_B]; simp

theorem fpRes_all {s : ByteArray} {n : Nat} (hn : n = s.size) (h : T.plainLen (L s) = some n) : fpRes (L s) = .tuple #[.string s, .int .i64 s.size, .int .i64 0] := by
  subst hn
  rw [fpRes_some h, List.take_of_length_le (by rw [L_len]; omega), B_L]

def plRel (l : List UInt8) (pos : Nat) : Prop := T.plainLen l = (T.plainLen (l.drop pos)).map (· + pos)
theorem plRel_go {l : List UInt8} {pos k : Nat} (h : plRel l pos) (e : T.plainLen (l.drop pos) = (T.plainLen ((l.drop pos).drop k)).map (· + k)) : plRel l (pos + k) := by
  unfold plRel at *
  rw [h, e, Option.map_map, List.drop_drop]
  congr 1; funext x; simp; omega
theorem plRel_none {l : List UInt8} {pos : Nat} (h : plRel l pos) (e : T.plainLen (l.drop pos) = none) : T.plainLen l = none := by rw [h, e]; rfl
theorem plRel_some {l : List UInt8} {pos : Nat} (h : plRel l pos) (e : T.plainLen (l.drop pos) = some 0) : T.plainLen l = some pos := by rw [h, e]; simp

set_option maxHeartbeats 400000 in
theorem firstPlain_any (s : ByteArray) (w : World) (hs : s.size ≤ 1000000) :
    Calls Try.prog 46 #[.string s] w fun e w' => e = .returned (fpRes (L s)) ∧ Below w.heap.size w w' := by
  go_enter Try.func46, Try.ntmps46
  go_wp2
  go_loopw [5] (fun len wr => ∃ pos : Nat, len = .int .i64 s.size ∧ wr.heap[w.heap.size]? = some (.stringIter s pos) ∧ Below w.heap.size w wr ∧ pos ≤ s.size ∧ plRel (L s) pos) (fun _ wr => s.size - wr.iterPos w.heap.size)
  case atStart => exact ⟨0, rfl, iter_start w s, (Below.refl _ w).alloc (Nat.le_refl _) _, by omega, by simp [plRel]⟩
  case round =>
    obtain ⟨pos, rfl, hit, hbw, hle, hg⟩ := hrel
    have HG := Lib.hid hg; clear hg
    by_cases hp : pos < s.size
    · have hnx : ∀ ty, (Instr.next (.pointer (some ⟨w.heap.size, 0, none⟩)) true ty).run Try.prog wr = _ := fun ty => next_at wr w.heap.size s pos ty hit hp
      have hwd := wid_at s pos hp
      have hne := ne_at s pos hp
      have HNE := Lib.hid hne; clear hne
      have hit2 := Lib.iterAt_heap wr w.heap.size s pos (pos + widAt s pos) hit
      have hbw2 := Lib.below_iterAt hbw (k := w.heap.size) (Nat.le_refl _) s (pos + widAt s pos)
      by_cases hq : rawAt s pos = 34
      · have hqb : (rawAt s pos == 34) = true := beq_iff_eq.2 hq
        have HS := Lib.hid (fpRes_none (plRel_none HG.out (T.plain_quote HNE.out hq)))
        clear hq
        go_wp2
        go_ret3
        rw [HS.out]
        exact ⟨rfl, hbw2⟩
      · have hqb : (rawAt s pos == 34) = false := beq_eq_false_iff_ne.2 hq
        by_cases hr : rawAt s pos = 32 ∨ rawAt s pos = 9
        · have hb : (rawAt s pos == 32 || rawAt s pos == 9) = true := by simpa using hr
          have HS := Lib.hid (fpRes_ext (plRel_some HG.out (T.plain_gap HNE.out hr)))
          clear hq hr
          go_wp2_with (first
            | (go_at_call 44; refine (isGap_any _ _).mono ?_; rintro e w' ⟨rfl, rfl⟩)
            | (go_at_call 49; refine (clone_any _ _ (by simp; omega)).mono ?_; rintro e w' ⟨rfl, hb3⟩))
          go_ret3
          rw [HS.out]
          exact ⟨rfl, hbw2.trans (hb3.mono (by have := hbw2.size; omega))⟩
        · have hb : (rawAt s pos == 32 || rawAt s pos == 9) = false := by simpa using hr
          have HS := Lib.hid (plRel_go HG.out (T.plain_go HNE.out hq hr))
          clear hq hr
          go_wp2_with (go_at_call 44; refine (isGap_any _ _).mono ?_; rintro e w' ⟨rfl, rfl⟩)
          go_roundw
          case rel => exact ⟨pos + widAt s pos, rfl, hit2, hbw2, hwd.2, HS.out⟩
          case measure =>
            simp only [World.iterPos, hit2, hit]
            omega
    · have hnx : ∀ ty, (Instr.next (.pointer (some ⟨w.heap.size, 0, none⟩)) true ty).run Try.prog wr = _ := fun ty => Lib.run_next_end_at wr w.heap.size s pos ty hit hp
      have HS := Lib.hid (fpRes_all (s := s) (n := pos) (by omega) (plRel_some HG.out (by rw [List.drop_of_length_le (by rw [L_len]; omega)]; rfl)))
      go_wp2_with (go_at_call 49; refine (clone_any _ _ (by first | omega | (simp; omega))).mono ?_; rintro e w' ⟨rfl, hb3⟩)
      go_ret3
      rw [HS.out]
      exact ⟨rfl, hbw.trans (hb3.mono (by have := hbw.size; omega))⟩

/-! ### Name -/
def nameL (l : List UInt8) : Bool := decide (1 ≤ (T.nums l).length) && decide ((T.nums l).length ≤ 32) && (T.nums l).all nameR

structure NmRel (l : List UInt8) (pos k : Nat) : Prop where
  cut : ∃ c : List Int, T.nums l = c ++ T.nums (l.drop pos) ∧ c.length = k ∧ c.all nameR = true
  le : k ≤ 32

theorem NmRel.start (l : List UInt8) : NmRel l 0 0 := ⟨⟨[], by simp, rfl, rfl⟩, by omega⟩
theorem NmRel.go {l : List UInt8} {pos k : Nat} (h : NmRel l pos k) (hne : l.drop pos ≠ []) (hn : nameR (T.num (l.drop pos)) = true) (hk : k + 1 ≤ 32) : NmRel l (pos + T.wid (l.drop pos)) (k + 1) := by
  obtain ⟨⟨c, e, hl, ha⟩, _⟩ := h
  refine ⟨⟨c ++ [T.num (l.drop pos)], ?_, by simp [hl], by simp only [List.all_append, ha, List.all_cons, List.all_nil, hn]; rfl⟩, hk⟩
  rw [e, T.nums_cons hne, List.drop_drop]; simp
theorem NmRel.many {l : List UInt8} {pos k : Nat} (h : NmRel l pos k) (hne : l.drop pos ≠ []) (hk : 32 < k + 1) : nameL l = false := by
  obtain ⟨⟨c, e, hl, ha⟩, _⟩ := h
  have : ¬ (T.nums l).length ≤ 32 := by rw [e, T.nums_cons hne]; simp; omega
  simp [nameL, this]
theorem NmRel.bad {l : List UInt8} {pos k : Nat} (h : NmRel l pos k) (hne : l.drop pos ≠ []) (hn : nameR (T.num (l.drop pos)) = false) : nameL l = false := by
  obtain ⟨⟨c, e, hl, ha⟩, _⟩ := h
  have : (T.nums l).all nameR = false := by rw [e, T.nums_cons hne]; simp [hn]
  simp [nameL, this]
theorem NmRel.done {l : List UInt8} {pos k : Nat} (h : NmRel l pos k) (hl : l.length ≤ pos) : nameL l = decide (0 < (k : Int)) := by
  obtain ⟨⟨c, e, hk, ha⟩, h32⟩ := h
  rw [List.drop_of_length_le hl] at e
  have e2 : T.nums l = c := by rw [e]; simp [T.nums, T.scan_nil]
  unfold nameL
  rw [e2, ha, hk, Bool.eq_iff_iff]; simp; omega

set_option maxHeartbeats 400000 in
theorem Name_any (s : ByteArray) (w : World) (hs : s.size ≤ 1000000) :
    Calls Try.prog 15 #[.string s] w fun e w' => e = .returned (.bool (nameL (L s))) ∧ Below w.heap.size w w' := by
  go_enter Try.func15, Try.ntmps15
  go_wp2
  go_loopw [3] (fun n wr => ∃ pos k : Nat, n = .int .i64 k ∧ wr.heap[w.heap.size]? = some (.stringIter s pos) ∧ Below w.heap.size w wr ∧ pos ≤ s.size ∧ k ≤ 32 ∧ NmRel (L s) pos k) (fun _ wr => s.size - wr.iterPos w.heap.size)
  case atStart => exact ⟨0, 0, rfl, iter_start w s, (Below.refl _ w).alloc (Nat.le_refl _) _, by omega, by omega, NmRel.start _⟩
  case round =>
    obtain ⟨pos, k, rfl, hit, hbw, hle, hk, hg⟩ := hrel
    have HG := Lib.hid hg; clear hg
    by_cases hp : pos < s.size
    · have hnx : ∀ ty, (Instr.next (.pointer (some ⟨w.heap.size, 0, none⟩)) true ty).run Try.prog wr = _ := fun ty => next_at wr w.heap.size s pos ty hit hp
      have hwd := wid_at s pos hp
      have hne := ne_at s pos hp
      have HNE := Lib.hid hne; clear hne
      have hit2 := Lib.iterAt_heap wr w.heap.size s pos (pos + widAt s pos) hit
      have hbw2 := Lib.below_iterAt hbw (k := w.heap.size) (Nat.le_refl _) s (pos + widAt s pos)
      by_cases h32 : 32 < k + 1
      · have hd : decide ((32 : Int) < (k : Int) + 1) = true := by simp; omega
        have HS := Lib.hid (HG.out.many HNE.out h32)
        go_wp2
        go_ret
        rw [HS.out]
        exact ⟨rfl, hbw2⟩
      · have hd : decide ((32 : Int) < (k : Int) + 1) = false := by simp; omega
        cases hn : nameR (numAt s pos)
        · have HS := Lib.hid (HG.out.bad HNE.out hn)
          have HN := Lib.hid hn; clear hn
          go_wp2_with (first
            | (go_at_call 27; refine (runeNumber_at s pos _ (by omega)).mono ?_; rintro e w' ⟨rfl, rfl⟩)
            | (go_at_call 29; refine (isNameRune_any _ _).mono ?_; rintro e w' ⟨rfl, rfl⟩; rw [HN.out]))
          go_ret
          rw [HS.out]
          exact ⟨rfl, hbw2⟩
        · have HS := Lib.hid (HG.out.go HNE.out hn (by omega))
          have HN := Lib.hid hn; clear hn
          go_wp2_with (first
            | (go_at_call 27; refine (runeNumber_at s pos _ (by omega)).mono ?_; rintro e w' ⟨rfl, rfl⟩)
            | (go_at_call 29; refine (isNameRune_any _ _).mono ?_; rintro e w' ⟨rfl, rfl⟩; rw [HN.out]))
          go_roundw
          case rel => exact ⟨pos + widAt s pos, k + 1, by go_num, hit2, hbw2, hwd.2, by omega, HS.out⟩
          case measure =>
            simp only [World.iterPos, hit2, hit]
            omega
    · have hnx : ∀ ty, (Instr.next (.pointer (some ⟨w.heap.size, 0, none⟩)) true ty).run Try.prog wr = _ := fun ty => Lib.run_next_end_at wr w.heap.size s pos ty hit hp
      have HS := Lib.hid (HG.out.done (by rw [L_len]; omega))
      go_wp2
      go_ret
      rw [HS.out]
      exact ⟨ret_bool (by simp), hbw⟩

/-! ### isPlain -/
def plainR (n : Int) : Bool := !(decide (n ≤ 32) || n == 34 || n == 127)
def plainL (l : List UInt8) : Bool := (T.nums l).all plainR && !l.isEmpty

structure PlRel (l : List UInt8) (pos : Nat) : Prop where
  cut : ∃ c : List Int, T.nums l = c ++ T.nums (l.drop pos) ∧ c.all plainR = true
theorem PlRel.start (l : List UInt8) : PlRel l 0 := ⟨⟨[], by simp, rfl⟩⟩
theorem PlRel.go {l : List UInt8} {pos : Nat} (h : PlRel l pos) (hne : l.drop pos ≠ []) (hn : plainR (T.num (l.drop pos)) = true) : PlRel l (pos + T.wid (l.drop pos)) := by
  obtain ⟨⟨c, e, ha⟩⟩ := h
  refine ⟨⟨c ++ [T.num (l.drop pos)], ?_, by simp only [List.all_append, ha, List.all_cons, List.all_nil, hn]; rfl⟩⟩
  rw [e, T.nums_cons hne, List.drop_drop]; simp
theorem PlRel.bad {l : List UInt8} {pos : Nat} (h : PlRel l pos) (hne : l.drop pos ≠ []) (hn : plainR (T.num (l.drop pos)) = false) : plainL l = false := by
  obtain ⟨⟨c, e, ha⟩⟩ := h
  have : (T.nums l).all plainR = false := by rw [e, T.nums_cons hne]; simp [hn]
  simp [plainL, this]
theorem PlRel.done {l : List UInt8} {pos : Nat} (h : PlRel l pos) (hl : l.length ≤ pos) : plainL l = !l.isEmpty := by
  obtain ⟨⟨c, e, ha⟩⟩ := h
  rw [List.drop_of_length_le hl] at e
  have e2 : T.nums l = c := by rw [e]; simp [T.nums, T.scan_nil]
  unfold plainL
  rw [e2, ha]; simp

set_option maxHeartbeats 400000 in
theorem isPlain_any (s : ByteArray) (w : World) (hs : s.size ≤ 1000000) :
    Calls Try.prog 38 #[.string s] w fun e w' => e = .returned (.bool (plainL (L s))) ∧ Below w.heap.size w w' := by
  go_enter Try.func38, Try.ntmps38
  go_wp2
  go_loopw [] (fun wr => ∃ pos : Nat, wr.heap[w.heap.size]? = some (.stringIter s pos) ∧ Below w.heap.size w wr ∧ pos ≤ s.size ∧ PlRel (L s) pos) (fun wr => s.size - wr.iterPos w.heap.size)
  case atStart => exact ⟨0, iter_start w s, (Below.refl _ w).alloc (Nat.le_refl _) _, by omega, PlRel.start _⟩
  case round =>
    obtain ⟨pos, hit, hbw, hle, hg⟩ := hrel
    have HG := Lib.hid hg; clear hg
    by_cases hp : pos < s.size
    · have hnx : ∀ ty, (Instr.next (.pointer (some ⟨w.heap.size, 0, none⟩)) true ty).run Try.prog wr = _ := fun ty => next_at wr w.heap.size s pos ty hit hp
      have hwd := wid_at s pos hp
      have hne := ne_at s pos hp
      have HNE := Lib.hid hne; clear hne
      have hit2 := Lib.iterAt_heap wr w.heap.size s pos (pos + widAt s pos) hit
      have hbw2 := Lib.below_iterAt hbw (k := w.heap.size) (Nat.le_refl _) s (pos + widAt s pos)
      cases hn : plainR (numAt s pos)
      · have HS := Lib.hid (HG.out.bad HNE.out hn)
        have HN := Lib.hid hn; clear hn
        by_cases c1 : numAt s pos ≤ 32
        · go_wp2_with (go_at_call 27; refine (runeNumber_at s pos _ (by omega)).mono ?_; rintro e w' ⟨rfl, rfl⟩)
          go_ret
          rw [HS.out]
          exact ⟨rfl, hbw2⟩
        · by_cases c2 : numAt s pos = 34
          · have c2b : (numAt s pos == 34) = true := beq_iff_eq.2 c2
            have HC := Lib.hid c2; clear c2
            go_wp2_with (go_at_call 27; refine (runeNumber_at s pos _ (by omega)).mono ?_; rintro e w' ⟨rfl, rfl⟩)
            go_ret
            rw [HS.out]
            exact ⟨rfl, hbw2⟩
          · have c2b : (numAt s pos == 34) = false := beq_eq_false_iff_ne.2 c2
            have c3b : (numAt s pos == 127) = true := by
              have := HN.out
              simp [plainR] at this
              simp; omega
            clear c2
            go_wp2_with (go_at_call 27; refine (runeNumber_at s pos _ (by omega)).mono ?_; rintro e w' ⟨rfl, rfl⟩)
            go_ret
            rw [HS.out]
            exact ⟨rfl, hbw2⟩
      · have HS := Lib.hid (HG.out.go HNE.out hn)
        have c1 : ¬ numAt s pos ≤ 32 := by simp [plainR] at hn; omega
        have c2b : (numAt s pos == 34) = false := by simp [plainR] at hn; simp; omega
        have c3b : (numAt s pos == 127) = false := by simp [plainR] at hn; simp; omega
        clear hn
        go_wp2_with (go_at_call 27; refine (runeNumber_at s pos _ (by omega)).mono ?_; rintro e w' ⟨rfl, rfl⟩)
        go_roundw
        case rel => exact ⟨pos + widAt s pos, hit2, hbw2, hwd.2, HS.out⟩
        case measure =>
          simp only [World.iterPos, hit2, hit]
          omega
    · have hnx : ∀ ty, (Instr.next (.pointer (some ⟨w.heap.size, 0, none⟩)) true ty).run Try.prog wr = _ := fun ty => Lib.run_next_end_at wr w.heap.size s pos ty hit hp
      have HS := Lib.hid (HG.out.done (by rw [L_len]; omega))
      go_wp2
      go_ret
      rw [HS.out]
      refine ⟨ret_bool ?_, hbw⟩
      rw [Lib.toList_data]
end Go.Proofs.Ytnaabapahblhmaa
