/-
  Walks of package text: runeNumber, isNameRune, Name.
-/
import Derived.Test.YtmfhipjceeijmaaBase
import Derived.Test.YtmfhipjceeijmaaTextSpec
import Derived.Test.YtmfhipjceeijmaaTextShelf
namespace Go.Proofs.Ytmfhipjceeijmaa
open Go.RowKit

theorem ext_drop (s : ByteArray) (i : Nat) : (s.extract i s.size).data.toList = s.data.toList.drop i := by
  rw [ext_list, List.take_of_length_le]
  simp

def rawAt (s : ByteArray) (pos : Nat) : Int := T.raw (s.data.toList.drop pos)
def numAt (s : ByteArray) (pos : Nat) : Int := T.num (s.data.toList.drop pos)
def widAt (s : ByteArray) (pos : Nat) : Nat := T.wid (s.data.toList.drop pos)

theorem next_at {P : Program} (w : World) (k : Nat) (s : ByteArray) (pos : Nat) (ty : TypeId) (hk : w.heap[k]? = some (.stringIter s pos)) (h : pos < s.size) :
    (Instr.next (.pointer (some ⟨k, 0, none⟩)) true ty).run P w =
      .ok (.tuple #[.bool true, .int .i64 pos, .int .i32 (rawAt s pos)]) (w.iterAt k s (pos + widAt s pos)) := by
  rw [Lib.run_next_any_at w k s pos ty hk h, T.decode_drop]; rfl

set_option maxHeartbeats 400000 in
theorem runeNumber_other (s : ByteArray) (i : Nat) (r : Int) (w : World) (hr : (r == 65533) = false) :
    Calls Try.prog 39 #[.string s, .int .i64 i, .int .i32 r] w fun e w' => e = .returned (.int .i32 r) ∧ w = w' := by
  go_enter Try.func39, Try.ntmps39
  go_wp2
  go_ret
  exact ⟨rfl, rfl⟩

set_option maxHeartbeats 400000 in
theorem runeNumber_bad (s : ByteArray) (i : Nat) (w : World) (hi : i ≤ s.size) (p : Bool)
    (hp : Lib.hasPrefix (s.data.toList.drop i) [239, 191, 189] = p) :
    Calls Try.prog 39 #[.string s, .int .i64 i, .int .i32 65533] w fun e w' => e = .returned (.int .i32 (if p then 65533 else -1)) ∧ w = w' := by
  go_enter Try.func39, Try.ntmps39
  have he := ext_drop s i
  have HE := Lib.hid he; clear he
  have HP := Lib.hid hp; clear hp
  go_wp2_with fail
  refine (Try.strings_HasPrefix _ _ _).mono ?_
  rintro e w' ⟨rfl, rfl⟩
  rw [HE.out, HP.out]
  cases p
  · go_wp2
    go_ret
    exact ⟨rfl, rfl⟩
  · go_wp2
    go_ret
    exact ⟨rfl, rfl⟩

theorem numAt_other (s : ByteArray) (i : Nat) (h : rawAt s i ≠ 65533) : numAt s i = rawAt s i := by
  unfold numAt rawAt at *
  rcases T.kind (s.data.toList.drop i) with ⟨_, a, b, _⟩ | ⟨_, a, b, _⟩ | ⟨_, a, b, _⟩
  · rw [a, b]
  · exact absurd b h
  · exact a

set_option maxHeartbeats 400000 in
/-- What 'runeNumber' tells at a place of a text. -/
theorem runeNumber_at (s : ByteArray) (i : Nat) (w : World) (hi : i ≤ s.size) :
    Calls Try.prog 39 #[.string s, .int .i64 i, .int .i32 (rawAt s i)] w fun e w' => e = .returned (.int .i32 (numAt s i)) ∧ w = w' := by
  by_cases h : rawAt s i = 65533
  · have h2 := T.fffd (l := s.data.toList.drop i) h
    rw [h]
    refine (runeNumber_bad s i w hi _ rfl).mono ?_
    rintro e w' ⟨rfl, rfl⟩
    refine ⟨?_, rfl⟩
    have h3 : numAt s i = if Lib.hasPrefix (s.data.toList.drop i) [239, 191, 189] then 65533 else -1 := by
      by_cases c : Lib.hasPrefix (s.data.toList.drop i) [239, 191, 189] = true
      · rw [if_pos c]; exact h2.1 c
      · rw [if_neg c]
        have c2 : ¬ numAt s i = 65533 := fun e => c (h2.2 e)
        unfold numAt rawAt at *
        rcases T.kind (s.data.toList.drop i) with ⟨_, a, b, _⟩ | ⟨_, a, b, _⟩ | ⟨_, a, b, _⟩ <;> omega
    rw [h3]
  · rw [numAt_other s i h]
    exact runeNumber_other s i _ w (beq_eq_false_iff_ne.2 h)

set_option maxHeartbeats 400000 in
theorem isNameRune_any (r : Int) (w : World) : Calls Try.prog 38 #[.int .i32 r] w fun e w' => e = .returned (.bool (nameR r)) ∧ w = w' := by
  go_enter Try.func38, Try.ntmps38
  go_wp2
  all_goals
    go_ret
    exact ⟨ret_bool (by rw [Bool.eq_iff_iff]; simp_all [nameR] <;> omega), rfl⟩
theorem wid_at (s : ByteArray) (pos : Nat) (h : pos < s.size) : 1 ≤ widAt s pos ∧ pos + widAt s pos ≤ s.size := by
  have h1 : pos < (L s).length := by rw [L_len]; exact h
  exact ⟨T.wid_pos _, by have := T.drop_wid h1; rw [L_len] at this; exact this⟩
theorem ne_at (s : ByteArray) (pos : Nat) (h : pos < s.size) : (L s).drop pos ≠ [] := T.drop_ne (by rw [L_len]; exact h)

theorem iter_start (w : World) (s : ByteArray) : (w.iter s 0).heap[w.heap.size]? = some (.stringIter s 0) := World.iter_heap w s 0


structure NmRel (l : List UInt8) (pos k : Nat) : Prop where
  cut : ∃ c : List Int, T.nums l = c ++ T.nums (l.drop pos) ∧ c.length = k ∧ c.all nameR = true
  le : k ≤ 32

theorem NmRel.start (l : List UInt8) : NmRel l 0 0 := ⟨⟨[], by simp, rfl, rfl⟩, by omega⟩
theorem NmRel.go {l : List UInt8} {pos k : Nat} (h : NmRel l pos k) (hne : l.drop pos ≠ []) (hn : nameR (T.num (l.drop pos)) = true) (hk : k + 1 ≤ 32) : NmRel l (pos + T.wid (l.drop pos)) (k + 1) := by
  obtain ⟨⟨c, e, hl, ha⟩, _⟩ := h
  refine ⟨⟨c ++ [T.num (l.drop pos)], ?_, by simp [hl], by simp only [List.all_append, ha, List.all_cons, List.all_nil, hn]; rfl⟩, hk⟩
  rw [e, T.nums_cons hne, List.drop_drop]; simp
theorem NmRel.many {l : List UInt8} {pos k : Nat} (h : NmRel l pos k) (hne : l.drop pos ≠ []) (hk : 32 < k + 1) : nameL l = false := by
  obtain ⟨⟨c, e, hl, ha⟩, _⟩ := h
  have : ¬ (T.nums l).length ≤ 32 := by rw [e, T.nums_cons hne]; simp; omega
  simp [nameL, this]
theorem NmRel.bad {l : List UInt8} {pos k : Nat} (h : NmRel l pos k) (hne : l.drop pos ≠ []) (hn : nameR (T.num (l.drop pos)) = false) : nameL l = false := by
  obtain ⟨⟨c, e, hl, ha⟩, _⟩ := h
  have : (T.nums l).all nameR = false := by rw [e, T.nums_cons hne]; simp [hn]
  simp [nameL, this]
theorem NmRel.done {l : List UInt8} {pos k : Nat} (h : NmRel l pos k) (hl : l.length ≤ pos) : nameL l = decide (0 < (k : Int)) := by
  obtain ⟨⟨c, e, hk, ha⟩, h32⟩ := h
  rw [List.drop_of_length_le hl] at e
  have e2 : T.nums l = c := by rw [e]; simp [T.nums, T.scan_nil]
  unfold nameL
  rw [e2, ha, hk, Bool.eq_iff_iff]; simp; omega

set_option maxHeartbeats 400000 in
theorem Name_any (s : ByteArray) (w : World) (hs : s.size ≤ 9223372036854775807) :
    Calls Try.prog 22 #[.string s] w fun e w' => e = .returned (.bool (nameL (L s))) ∧ Below w.heap.size w w' := by
  go_enter Try.func22, Try.ntmps22
  go_wp2
  go_loopw [3] (fun n wr => ∃ pos k : Nat, n = .int .i64 k ∧ wr.heap[w.heap.size]? = some (.stringIter s pos) ∧ Below w.heap.size w wr ∧ pos ≤ s.size ∧ k ≤ 32 ∧ NmRel (L s) pos k) (fun _ wr => s.size - wr.iterPos w.heap.size)
  case atStart => exact ⟨0, 0, rfl, iter_start w s, (Below.refl _ w).alloc (Nat.le_refl _) _, by omega, by omega, NmRel.start _⟩
  case round =>
    obtain ⟨pos, k, rfl, hit, hbw, hle, hk, hg⟩ := hrel
    have HG := Lib.hid hg; clear hg
    by_cases hp : pos < s.size
    · have hnx : ∀ ty, (Instr.next (.pointer (some ⟨w.heap.size, 0, none⟩)) true ty).run Try.prog wr = _ := fun ty => next_at wr w.heap.size s pos ty hit hp
      have hwd := wid_at s pos hp
      have hne := ne_at s pos hp
      have HNE := Lib.hid hne; clear hne
      have hit2 := Lib.iterAt_heap wr w.heap.size s pos (pos + widAt s pos) hit
      have hbw2 := Lib.below_iterAt hbw (k := w.heap.size) (Nat.le_refl _) s (pos + widAt s pos)
      by_cases h32 : 32 < k + 1
      · have hd : decide ((32 : Int) < (k : Int) + 1) = true := by simp; omega
        have HS := Lib.hid (HG.out.many HNE.out h32)
        go_wp2
        go_ret
        rw [HS.out]
        exact ⟨rfl, hbw2⟩
      · have hd : decide ((32 : Int) < (k : Int) + 1) = false := by simp; omega
        cases hn : nameR (numAt s pos)
        · have HS := Lib.hid (HG.out.bad HNE.out hn)
          have HN := Lib.hid hn; clear hn
          go_wp2_with (first
            | (go_at_call 39; refine (runeNumber_at s pos _ (by omega)).mono ?_; rintro e w' ⟨rfl, rfl⟩)
            | (go_at_call 38; refine (isNameRune_any _ _).mono ?_; rintro e w' ⟨rfl, rfl⟩; rw [HN.out]))
          go_ret
          rw [HS.out]
          exact ⟨rfl, hbw2⟩
        · have HS := Lib.hid (HG.out.go HNE.out hn (by omega))
          have HN := Lib.hid hn; clear hn
          go_wp2_with (first
            | (go_at_call 39; refine (runeNumber_at s pos _ (by omega)).mono ?_; rintro e w' ⟨rfl, rfl⟩)
            | (go_at_call 38; refine (isNameRune_any _ _).mono ?_; rintro e w' ⟨rfl, rfl⟩; rw [HN.out]))
          go_roundw
          case rel => exact ⟨pos + widAt s pos, k + 1, by go_num, hit2, hbw2, hwd.2, by omega, HS.out⟩
          case measure =>
            simp only [World.iterPos, hit2, hit]
            omega
    · have hnx : ∀ ty, (Instr.next (.pointer (some ⟨w.heap.size, 0, none⟩)) true ty).run Try.prog wr = _ := fun ty => Lib.run_next_end_at wr w.heap.size s pos ty hit hp
      have HS := Lib.hid (HG.out.done (by rw [L_len]; omega))
      go_wp2
      go_ret
      rw [HS.out]
      exact ⟨ret_bool (by simp), hbw⟩

theorem Name_l (m : List UInt8) (w : World) (hs : m.length ≤ 9223372036854775807) :
    Calls Try.prog 22 #[.string (B m)] w fun e w' => e = .returned (.bool (nameL m)) ∧ Below w.heap.size w w' := by
  have := Name_any (B m) w (by rw [size_B]; exact hs)
  rwa [L_B] at this
end Go.Proofs.Ytmfhipjceeijmaa
