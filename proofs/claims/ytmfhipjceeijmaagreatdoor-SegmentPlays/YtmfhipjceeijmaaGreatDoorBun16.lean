/-
  Own texts, joined: TextName TextRef
-/
import Derived.Test.YtmfhipjceeijmaaGreatDoorBun9
import Derived.Test.YtmfhipjceeijmaaGreatDoorBun3
import Derived.Test.YtmfhipjceeijmaaGreatDoorBun8

/-
  Walks of package text: runeNumber, isNameRune, Name.
-/
namespace Go.Proofs.YtmfhipjceeijmaaGreatDoor
open Go.RowKit

theorem ext_drop (s : ByteArray) (i : Nat) : (s.extract i s.size).data.toList = s.data.toList.drop i := by
  rw [ext_list, List.take_of_length_le]
  simp

def rawAt (s : ByteArray) (pos : Nat) : Int := T.raw (s.data.toList.drop pos)
def numAt (s : ByteArray) (pos : Nat) : Int := T.num (s.data.toList.drop pos)
def widAt (s : ByteArray) (pos : Nat) : Nat := T.wid (s.data.toList.drop pos)

theorem next_at {P : Program} (w : World) (k : Nat) (s : ByteArray) (pos : Nat) (ty : TypeId) (hk : w.heap[k]? = some (.stringIter s pos)) (h : pos < s.size) :
    (Instr.next (.pointer (some ⟨k, 0, none⟩)) true ty).run P w =
      .ok (.tuple #[.bool true, .int .i64 pos, .int .i32 (rawAt s pos)]) (w.iterAt k s (pos + widAt s pos)) := by
  rw [Lib.run_next_any_at w k s pos ty hk h, T.decode_drop]; rfl

set_option maxHeartbeats 400000 in
theorem runeNumber_other (s : ByteArray) (i : Nat) (r : Int) (w : World) (hr : (r == 65533) = false) :
    Calls Tryz.prog 95 #[.string s, .int .i64 i, .int .i32 r] w fun e w' => e = .returned (.int .i32 r) ∧ w = w' := by
  go_enter Tryz.func95, Tryz.ntmps95
  go_wp2
  go_ret
  exact ⟨rfl, rfl⟩

set_option maxHeartbeats 400000 in
theorem runeNumber_bad (s : ByteArray) (i : Nat) (w : World) (hi : i ≤ s.size) (p : Bool)
    (hp : Lib.hasPrefix (s.data.toList.drop i) [239, 191, 189] = p) :
    Calls Tryz.prog 95 #[.string s, .int .i64 i, .int .i32 65533] w fun e w' => e = .returned (.int .i32 (if p then 65533 else -1)) ∧ w = w' := by
  go_enter Tryz.func95, Tryz.ntmps95
  have he := ext_drop s i
  have HE := Lib.hid he; clear he
  have HP := Lib.hid hp; clear hp
  go_wp2_with fail
  refine (Tryz.strings_HasPrefix _ _ _).mono ?_
  rintro e w' ⟨rfl, rfl⟩
  rw [HE.out, HP.out]
  cases p
  · go_wp2
    go_ret
    exact ⟨rfl, rfl⟩
  · go_wp2
    go_ret
    exact ⟨rfl, rfl⟩

theorem numAt_other (s : ByteArray) (i : Nat) (h : rawAt s i ≠ 65533) : numAt s i = rawAt s i := by
  unfold numAt rawAt at *
  rcases T.kind (s.data.toList.drop i) with ⟨_, a, b, _⟩ | ⟨_, a, b, _⟩ | ⟨_, a, b, _⟩
  · rw [a, b]
  · exact absurd b h
  · exact a

set_option maxHeartbeats 400000 in
/-- What 'runeNumber' tells at a place of a text. -/
theorem runeNumber_at (s : ByteArray) (i : Nat) (w : World) (hi : i ≤ s.size) :
    Calls Tryz.prog 95 #[.string s, .int .i64 i, .int .i32 (rawAt s i)] w fun e w' => e = .returned (.int .i32 (numAt s i)) ∧ w = w' := by
  by_cases h : rawAt s i = 65533
  · have h2 := T.fffd (l := s.data.toList.drop i) h
    rw [h]
    refine (runeNumber_bad s i w hi _ rfl).mono ?_
    rintro e w' ⟨rfl, rfl⟩
    refine ⟨?_, rfl⟩
    have h3 : numAt s i = if Lib.hasPrefix (s.data.toList.drop i) [239, 191, 189] then 65533 else -1 := by
      by_cases c : Lib.hasPrefix (s.data.toList.drop i) [239, 191, 189] = true
      · rw [if_pos c]; exact h2.1 c
      · rw [if_neg c]
        have c2 : ¬ numAt s i = 65533 := fun e => c (h2.2 e)
        unfold numAt rawAt at *
        rcases T.kind (s.data.toList.drop i) with ⟨_, a, b, _⟩ | ⟨_, a, b, _⟩ | ⟨_, a, b, _⟩ <;> omega
    rw [h3]
  · rw [numAt_other s i h]
    exact runeNumber_other s i _ w (beq_eq_false_iff_ne.2 h)

set_option maxHeartbeats 400000 in
theorem isNameRune_any (r : Int) (w : World) : Calls Tryz.prog 94 #[.int .i32 r] w fun e w' => e = .returned (.bool (nameR r)) ∧ w = w' := by
  go_enter Tryz.func94, Tryz.ntmps94
  go_wp2
  all_goals
    go_ret
    exact ⟨ret_bool (by rw [Bool.eq_iff_iff]; simp_all [nameR] <;> omega), rfl⟩
theorem wid_at (s : ByteArray) (pos : Nat) (h : pos < s.size) : 1 ≤ widAt s pos ∧ pos + widAt s pos ≤ s.size := by
  have h1 : pos < (L s).length := by rw [L_len]; exact h
  exact ⟨T.wid_pos _, by have := T.drop_wid h1; rw [L_len] at this; exact this⟩
theorem ne_at (s : ByteArray) (pos : Nat) (h : pos < s.size) : (L s).drop pos ≠ [] := T.drop_ne (by rw [L_len]; exact h)

theorem iter_start (w : World) (s : ByteArray) : (w.iter s 0).heap[w.heap.size]? = some (.stringIter s 0) := World.iter_heap w s 0


structure NmRel (l : List UInt8) (pos k : Nat) : Prop where
  cut : ∃ c : List Int, T.nums l = c ++ T.nums (l.drop pos) ∧ c.length = k ∧ c.all nameR = true
  le : k ≤ 32

theorem NmRel.start (l : List UInt8) : NmRel l 0 0 := ⟨⟨[], by simp, rfl, rfl⟩, by omega⟩
theorem NmRel.go {l : List UInt8} {pos k : Nat} (h : NmRel l pos k) (hne : l.drop pos ≠ []) (hn : nameR (T.num (l.drop pos)) = true) (hk : k + 1 ≤ 32) : NmRel l (pos + T.wid (l.drop pos)) (k + 1) := by
  obtain ⟨⟨c, e, hl, ha⟩, _⟩ := h
  refine ⟨⟨c ++ [T.num (l.drop pos)], ?_, by simp [hl], by simp only [List.all_append, ha, List.all_cons, List.all_nil, hn]; rfl⟩, hk⟩
  rw [e, T.nums_cons hne, List.drop_drop]; simp
theorem NmRel.many {l : List UInt8} {pos k : Nat} (h : NmRel l pos k) (hne : l.drop pos ≠ []) (hk : 32 < k + 1) : nameL l = false := by
  obtain ⟨⟨c, e, hl, ha⟩, _⟩ := h
  have : ¬ (T.nums l).length ≤ 32 := by rw [e, T.nums_cons hne]; simp; omega
  simp [nameL, this]
theorem NmRel.bad {l : List UInt8} {pos k : Nat} (h : NmRel l pos k) (hne : l.drop pos ≠ []) (hn : nameR (T.num (l.drop pos)) = false) : nameL l = false := by
  obtain ⟨⟨c, e, hl, ha⟩, _⟩ := h
  have : (T.nums l).all nameR = false := by rw [e, T.nums_cons hne]; simp [hn]
  simp [nameL, this]
theorem NmRel.done {l : List UInt8} {pos k : Nat} (h : NmRel l pos k) (hl : l.length ≤ pos) : nameL l = decide (0 < (k : Int)) := by
  obtain ⟨⟨c, e, hk, ha⟩, h32⟩ := h
  rw [List.drop_of_length_le hl] at e
  have e2 : T.nums l = c := by rw [e]; simp [T.nums, T.scan_nil]
  unfold nameL
  rw [e2, ha, hk, Bool.eq_iff_iff]; simp; omega

set_option maxHeartbeats 400000 in
theorem Name_any (s : ByteArray) (w : World) (hs : s.size ≤ 9223372036854775807) :
    Calls Tryz.prog 63 #[.string s] w fun e w' => e = .returned (.bool (nameL (L s))) ∧ Below w.heap.size w w' := by
  go_enter Tryz.func63, Tryz.ntmps63
  go_wp2
  go_loopw [3] (fun n wr => ∃ pos k : Nat, n = .int .i64 k ∧ wr.heap[w.heap.size]? = some (.stringIter s pos) ∧ Below w.heap.size w wr ∧ pos ≤ s.size ∧ k ≤ 32 ∧ NmRel (L s) pos k) (fun _ wr => s.size - wr.iterPos w.heap.size)
  case atStart => exact ⟨0, 0, rfl, iter_start w s, (Below.refl _ w).alloc (Nat.le_refl _) _, by omega, by omega, NmRel.start _⟩
  case round =>
    obtain ⟨pos, k, rfl, hit, hbw, hle, hk, hg⟩ := hrel
    have HG := Lib.hid hg; clear hg
    by_cases hp : pos < s.size
    · have hnx : ∀ ty, (Instr.next (.pointer (some ⟨w.heap.size, 0, none⟩)) true ty).run Tryz.prog wr = _ := fun ty => next_at wr w.heap.size s pos ty hit hp
      have hwd := wid_at s pos hp
      have hne := ne_at s pos hp
      have HNE := Lib.hid hne; clear hne
      have hit2 := Lib.iterAt_heap wr w.heap.size s pos (pos + widAt s pos) hit
      have hbw2 := Lib.below_iterAt hbw (k := w.heap.size) (Nat.le_refl _) s (pos + widAt s pos)
      by_cases h32 : 32 < k + 1
      · have hd : decide ((32 : Int) < (k : Int) + 1) = true := by simp; omega
        have HS := Lib.hid (HG.out.many HNE.out h32)
        go_wp2
        go_ret
        rw [HS.out]
        exact ⟨rfl, hbw2⟩
      · have hd : decide ((32 : Int) < (k : Int) + 1) = false := by simp; omega
        cases hn : nameR (numAt s pos)
        · have HS := Lib.hid (HG.out.bad HNE.out hn)
          have HN := Lib.hid hn; clear hn
          go_wp2_with (first
            | (go_at_call 95; refine (runeNumber_at s pos _ (by omega)).mono ?_; rintro e w' ⟨rfl, rfl⟩)
            | (go_at_call 94; refine (isNameRune_any _ _).mono ?_; rintro e w' ⟨rfl, rfl⟩; rw [HN.out]))
          go_ret
          rw [HS.out]
          exact ⟨rfl, hbw2⟩
        · have HS := Lib.hid (HG.out.go HNE.out hn (by omega))
          have HN := Lib.hid hn; clear hn
          go_wp2_with (first
            | (go_at_call 95; refine (runeNumber_at s pos _ (by omega)).mono ?_; rintro e w' ⟨rfl, rfl⟩)
            | (go_at_call 94; refine (isNameRune_any _ _).mono ?_; rintro e w' ⟨rfl, rfl⟩; rw [HN.out]))
          go_roundw
          case rel => exact ⟨pos + widAt s pos, k + 1, by go_num, hit2, hbw2, hwd.2, by omega, HS.out⟩
          case measure =>
            simp only [World.iterPos, hit2, hit]
            omega
    · have hnx : ∀ ty, (Instr.next (.pointer (some ⟨w.heap.size, 0, none⟩)) true ty).run Tryz.prog wr = _ := fun ty => Lib.run_next_end_at wr w.heap.size s pos ty hit hp
      have HS := Lib.hid (HG.out.done (by rw [L_len]; omega))
      go_wp2
      go_ret
      rw [HS.out]
      exact ⟨ret_bool (by simp), hbw⟩

theorem Name_l (m : List UInt8) (w : World) (hs : m.length ≤ 9223372036854775807) :
    Calls Tryz.prog 63 #[.string (B m)] w fun e w' => e = .returned (.bool (nameL m)) ∧ Below w.heap.size w w' := by
  have := Name_any (B m) w (by rw [size_B]; exact hs)
  rwa [L_B] at this
end Go.Proofs.YtmfhipjceeijmaaGreatDoor

/-
  Walks of the document's answer to layer 1 (package bucketlineref1): size, Runes, Name.
-/
namespace Go.Proofs.YtmfhipjceeijmaaGreatDoor
open Go.RowKit
theorem get_Tt (m : List UInt8) (n : Nat) (h : n < (B m).size) : ((B m)[n]'h).toNat = T.bt m n := by rw [get_B]; rfl
attribute [local go_sem] ext_Bd ext_Bl ext_Bt toList_B add_B size_B get_Tt
theorem Tryz.infoInt : (Tryz.prog.info? 3).map (fun i => (i.zero, i.size, i.bytes)) = some (some (.int .i64 0), 1, 8) := by kernel_rfl

structure RnRel (l : List UInt8) (pos : Nat) (acc : List Int) : Prop where
  cut : T.nums l = acc ++ T.nums (l.drop pos)
  le : acc.length ≤ pos
theorem RnRel.go {l : List UInt8} {pos : Nat} {acc : List Int} (h : RnRel l pos acc) (hne : l.drop pos ≠ []) : RnRel l (pos + T.wid (l.drop pos)) (acc ++ [T.num (l.drop pos)]) := by
  refine ⟨?_, by have := T.wid_pos (l.drop pos); have := h.le; simp; omega⟩
  rw [h.cut, T.nums_cons hne, List.drop_drop]; simp
theorem RnRel.done {l : List UInt8} {pos : Nat} {acc : List Int} (h : RnRel l pos acc) (hl : l.length ≤ pos) : T.nums l = acc := by
  rw [h.cut, List.drop_of_length_le hl]; simp [T.nums, T.scan_nil]

def intCells (l : List Int) : List Value := l.map (Value.int .i64)
theorem intCells_len (l : List Int) : (intCells l).length = l.length := by simp [intCells]

theorem sz_bad {m : List UInt8} (h1 : ¬ T.bt m 0 < 128)
    (h2 : ¬ (2 ≤ m.length ∧ T.bt m 0 / 32 = 6 ∧ T.bt m 1 / 64 = 2 ∧ 128 ≤ T.bt m 0 % 32 * 64 + T.bt m 1 % 64))
    (h3 : ¬ (3 ≤ m.length ∧ T.bt m 0 / 16 = 14 ∧ T.bt m 1 / 64 = 2 ∧ T.bt m 2 / 64 = 2 ∧ 2048 ≤ T.bt m 0 % 16 * 4096 + T.bt m 1 % 64 * 64 + T.bt m 2 % 64 ∧ (T.bt m 0 % 16 * 4096 + T.bt m 1 % 64 * 64 + T.bt m 2 % 64 < 55296 ∨ 57344 ≤ T.bt m 0 % 16 * 4096 + T.bt m 1 % 64 * 64 + T.bt m 2 % 64)))
    (h4 : ¬ (4 ≤ m.length ∧ T.bt m 0 / 8 = 30 ∧ T.bt m 1 / 64 = 2 ∧ T.bt m 2 / 64 = 2 ∧ T.bt m 3 / 64 = 2 ∧ 65536 ≤ T.bt m 0 % 8 * 262144 + T.bt m 1 % 64 * 4096 + T.bt m 2 % 64 * 64 + T.bt m 3 % 64 ∧ T.bt m 0 % 8 * 262144 + T.bt m 1 % 64 * 4096 + T.bt m 2 % 64 * 64 + T.bt m 3 % 64 ≤ 1114111)) :
    T.wid m = 1 ∧ T.num m = -1 := by
  rcases T.dec_cases m with ⟨a, e⟩ | ⟨a, e⟩ | ⟨hl, a, b, v, hv, hh, e⟩ | ⟨hl, a, b, c, v, hv, hh, e⟩ | ⟨hl, a, b, c, d, v, hv, hh, e⟩
  · exact absurd a h1
  · simp [T.wid, T.num, e]
  · exact absurd ⟨hl, a, b, by omega⟩ h2
  · exact absurd ⟨hl, a, b, c, by omega, by omega⟩ h3
  · exact absurd ⟨hl, a, b, c, d, by omega, by omega⟩ h4
theorem sz_one {m : List UInt8} (h : T.bt m 0 < 128) : T.wid m = 1 ∧ T.num m = T.bt m 0 := by
  rcases T.kind m with ⟨_, a, _, b⟩ | ⟨_, _⟩ | ⟨_, _⟩
  · exact ⟨b, a⟩
  · omega
  · omega
theorem sz_two {m : List UInt8} (hl : 2 ≤ m.length) (h0 : T.bt m 0 / 32 = 6) (h1 : T.bt m 1 / 64 = 2) (h : 128 ≤ T.bt m 0 % 32 * 64 + T.bt m 1 % 64) : T.wid m = 2 ∧ T.num m = ((T.bt m 0 % 32 * 64 + T.bt m 1 % 64 : Nat) : Int) := by
  obtain ⟨x, y, r, rfl⟩ := T.of2 hl
  have e : T.decN (x :: y :: r) = (_, 2) := T.decN_two (X := r) h0 h1 h
  unfold T.wid T.num; rw [e]; exact ⟨rfl, by simp; rfl⟩
theorem sz_three {m : List UInt8} (hl : 3 ≤ m.length) (h0 : T.bt m 0 / 16 = 14) (h1 : T.bt m 1 / 64 = 2) (h2 : T.bt m 2 / 64 = 2) {v : Nat} (hv : v = T.bt m 0 % 16 * 4096 + T.bt m 1 % 64 * 64 + T.bt m 2 % 64)
    (h : 2048 ≤ v ∧ (v < 55296 ∨ 57344 ≤ v)) : T.wid m = 3 ∧ T.num m = (v : Int) := by
  obtain ⟨x, y, z, r, rfl⟩ := T.of3 hl
  have e : T.decN (x :: y :: z :: r) = (v, 3) := T.decN_three (X := r) h0 h1 h2 hv h
  simp [T.wid, T.num, e]
theorem sz_four {m : List UInt8} (hl : 4 ≤ m.length) (h0 : T.bt m 0 / 8 = 30) (h1 : T.bt m 1 / 64 = 2) (h2 : T.bt m 2 / 64 = 2) (h3 : T.bt m 3 / 64 = 2) {v : Nat}
    (hv : v = T.bt m 0 % 8 * 262144 + T.bt m 1 % 64 * 4096 + T.bt m 2 % 64 * 64 + T.bt m 3 % 64) (h : 65536 ≤ v ∧ v ≤ 1114111) : T.wid m = 4 ∧ T.num m = (v : Int) := by
  obtain ⟨x, y, z, t, r, rfl⟩ := T.of4 hl
  have e : T.decN (x :: y :: z :: t :: r) = (v, 4) := T.decN_four (X := r) h0 h1 h2 h3 hv h
  simp [T.wid, T.num, e]

def szRes (m : List UInt8) : Value := .tuple #[.int .i64 (T.wid m), .int .i64 (T.num m)]
theorem szRes_of {m : List UInt8} {a : Nat} {b : Int} (h : T.wid m = a ∧ T.num m = b) : szRes m = .tuple #[.int .i64 a, .int .i64 b] := by
  unfold szRes; rw [h.1, h.2]

/-- The value after the bytes ahead of place k. -/
def sv (m : List UInt8) (v0 : Int) : Nat → Int
  | 0 => v0
  | 1 => v0
  | k + 2 => sv m v0 (k + 1) * 64 + T.bt m (k + 1) - 128
theorem sv_step (m : List UInt8) (v0 : Int) (k : Nat) (h : 1 ≤ k) : sv m v0 (k + 1) = sv m v0 k * 64 + T.bt m k - 128 := by
  match k, h with
  | k + 1, _ => rfl
structure SzRel (m : List UInt8) (k : Nat) : Prop where
  cont : ∀ j, 1 ≤ j → j < k → T.bt m j / 64 = 2
theorem SzRel.start (m : List UInt8) : SzRel m 1 := ⟨fun j h1 h2 => by omega⟩
theorem SzRel.go {m : List UInt8} {k : Nat} (h : SzRel m k) (hc : 128 ≤ T.bt m k) (hc2 : T.bt m k < 192) : SzRel m (k + 1) :=
  ⟨fun j h1 h2 => by
    by_cases e : j = k
    · subst e; omega
    · exact h.cont j h1 (by omega)⟩
theorem sv_bd {m : List UInt8} {v0 : Int} {k : Nat} (h : SzRel m k) (h1 : 1 ≤ k) (hv : 0 ≤ v0) (hb : (v0 < 32 ∧ k ≤ 2) ∨ (v0 < 16 ∧ k ≤ 3) ∨ (v0 < 8 ∧ k ≤ 4)) : 0 ≤ sv m v0 k ∧ sv m v0 k ≤ 2097151 := by
  have hk : k = 1 ∨ k = 2 ∨ k = 3 ∨ k = 4 := by omega
  have b1 := T.bt_lt m 1; have b2 := T.bt_lt m 2; have b3 := T.bt_lt m 3
  rcases hk with rfl | rfl | rfl | rfl
  · simp only [sv]; omega
  · have c1 := h.cont 1 (by omega) (by omega)
    simp only [sv, Nat.zero_add]; omega
  · have c1 := h.cont 1 (by omega) (by omega)
    have c2 := h.cont 2 (by omega) (by omega)
    simp only [sv, Nat.reduceAdd, Nat.zero_add]; omega
  · have c1 := h.cont 1 (by omega) (by omega)
    have c2 := h.cont 2 (by omega) (by omega)
    have c3 := h.cont 3 (by omega) (by omega)
    simp only [sv, Nat.reduceAdd, Nat.zero_add]; omega

set_option maxHeartbeats 1000000 in
set_option maxRecDepth 100000 in
theorem size_small (m : List UInt8) (w : World) (hm : 0 < m.length) (h : T.bt m 0 < 192 ∨ 248 ≤ T.bt m 0) :
    Calls Tryz.prog 128 #[.string (B m)] w fun e w' => e = .returned (szRes m) ∧ w = w' := by
  have hb := T.bt_lt m 0
  by_cases h0 : T.bt m 0 < 128
  · have H := Lib.hid (szRes_of (sz_one h0))
    go_enter Tryz.func128, Tryz.ntmps128
    go_wp2
    go_ret2
    rw [H.out]
    exact ⟨rfl, rfl⟩
  · have H := Lib.hid (szRes_of (sz_bad h0 (by omega) (by omega) (by omega)))
    rcases h with h | h
    · go_enter Tryz.func128, Tryz.ntmps128
      go_wp2
      go_ret2
      rw [H.out]
      exact ⟨rfl, rfl⟩
    · go_enter Tryz.func128, Tryz.ntmps128
      go_wp2
      go_ret2
      rw [H.out]
      exact ⟨rfl, rfl⟩

theorem sz_stop2 {m : List UInt8} {k : Nat} (h : 192 ≤ T.bt m 0) (h' : T.bt m 0 < 224) (h1 : 1 ≤ k) (hk : k < 2) (hc : ¬ (128 ≤ T.bt m k ∧ T.bt m k < 192)) : T.wid m = 1 ∧ T.num m = -1 := by
  have hkk : k = 1 ∨ k = 2 ∨ k = 3 := by omega
  rcases hkk with rfl | rfl | rfl <;> exact sz_bad (by omega) (by omega) (by omega) (by omega)
theorem sz_out2 {m : List UInt8} (hl : ¬ m.length < 2) (h : 192 ≤ T.bt m 0) (h' : T.bt m 0 < 224) (hr : SzRel m 2) {x : Int} (hx : x = sv m (T.bt m 0 - 192) 2) :
    ((x < 128 ∨ 1114111 < x ∨ (55296 ≤ x ∧ x ≤ 57343)) → T.wid m = 1 ∧ T.num m = -1) ∧ (¬ (x < 128 ∨ 1114111 < x ∨ (55296 ≤ x ∧ x ≤ 57343)) → T.wid m = 2 ∧ T.num m = x) := by
  have c1 := hr.cont 1 (by omega) (by omega)
  have b1 := T.bt_lt m 1
  simp only [sv, Nat.zero_add] at hx
  constructor
  · intro hh; exact sz_bad (by omega) (by omega) (by omega) (by omega)
  · intro hh
    have := sz_two (m := m) (by omega) (by omega) c1 (by omega)
    exact ⟨this.1, by rw [this.2, hx]; omega⟩

set_option maxHeartbeats 2000000 in
set_option maxRecDepth 100000 in
theorem size_two (m : List UInt8) (w : World) (hs : m.length ≤ 1000000) (hm : 0 < m.length) (h : 192 ≤ T.bt m 0) (h' : T.bt m 0 < 224) :
    Calls Tryz.prog 128 #[.string (B m)] w fun e w' => e = .returned (szRes m) ∧ w = w' := by
  by_cases hl : m.length < 2
  · have H := Lib.hid (szRes_of (sz_bad (m := m) (by omega) (by omega) (by omega) (by omega)))
    go_enter Tryz.func128, Tryz.ntmps128
    go_wp2
    go_ret2
    rw [H.out]
    exact ⟨rfl, rfl⟩
  · go_enter Tryz.func128, Tryz.ntmps128
    go_wp2
    go_loop [7, 8] (fun v i => ∃ k : Nat, i = .int .i64 k ∧ v = .int .i64 (sv m (T.bt m 0 - 192) k) ∧ 1 ≤ k ∧ k ≤ 2 ∧ SzRel m k) (fun _ i => 2 - (intOf i).toNat)
    case atStart => exact ⟨1, rfl, rfl, by omega, by omega, SzRel.start m⟩
    case round =>
      obtain ⟨k, rfl, rfl, hk1, hk2, hr⟩ := hrel
      have hvb := sv_bd (v0 := T.bt m 0 - 192) hr hk1 (by omega) (by omega)
      have hbk := T.bt_lt m k
      have HST := Lib.hid (sv_step m (T.bt m 0 - 192) k hk1)
      by_cases hlt : k < 2
      · have hkl : k < m.length := by omega
        by_cases c1 : 128 ≤ T.bt m k ∧ T.bt m k < 192
        · obtain ⟨c1, c1'⟩ := c1
          have HR := Lib.hid (hr.go c1 c1')
          generalize sv m (T.bt m 0 - 192) k = x at *
          go_wp2
          go_round
          case rel => first | exact ⟨k + 1, by go_num, by rw [HST.out], by omega, by omega, HR.out⟩ | (refine ⟨_, _, _, _, ?_, rfl, rfl, rfl, rfl⟩; exact ⟨k + 1, by go_num, by rw [HST.out], by omega, by omega, HR.out⟩)
          case measure => simp [intOf]; omega
        · have H := Lib.hid (szRes_of (sz_stop2 h h' hk1 hlt c1))
          generalize sv m (T.bt m 0 - 192) k = x at *
          by_cases c2 : T.bt m k < 128
          · go_wp2
            go_ret2
            rw [H.out]
            exact ⟨rfl, rfl⟩
          · have c3 : 192 ≤ T.bt m k := by omega
            go_wp2
            go_ret2
            rw [H.out]
            exact ⟨rfl, rfl⟩
      · obtain rfl : k = 2 := by omega
        have HO := Lib.hid (sz_out2 hl h h' hr rfl)
        generalize sv m (T.bt m 0 - 192) 2 = x at *
        by_cases e1 : x < 128
        · have H := Lib.hid (szRes_of (HO.out.1 (.inl e1)))
          go_wp2
          go_ret2
          rw [H.out]
          exact ⟨rfl, rfl⟩
        by_cases e2 : 1114111 < x
        · have H := Lib.hid (szRes_of (HO.out.1 (.inr (.inl e2))))
          go_wp2
          go_ret2
          rw [H.out]
          exact ⟨rfl, rfl⟩
        by_cases e3 : 55296 ≤ x
        · by_cases e4 : x ≤ 57343
          · have H := Lib.hid (szRes_of (HO.out.1 (.inr (.inr ⟨e3, e4⟩))))
            go_wp2
            go_ret2
            rw [H.out]
            exact ⟨rfl, rfl⟩
          · have H := Lib.hid (szRes_of (HO.out.2 (by omega)))
            go_wp2
            go_ret2
            rw [H.out]
            exact ⟨rfl, rfl⟩
        · have H := Lib.hid (szRes_of (HO.out.2 (by omega)))
          go_wp2
          go_ret2
          rw [H.out]
          exact ⟨rfl, rfl⟩

theorem sz_stop3 {m : List UInt8} {k : Nat} (h : 224 ≤ T.bt m 0) (h' : T.bt m 0 < 240) (h1 : 1 ≤ k) (hk : k < 3) (hc : ¬ (128 ≤ T.bt m k ∧ T.bt m k < 192)) : T.wid m = 1 ∧ T.num m = -1 := by
  have hkk : k = 1 ∨ k = 2 ∨ k = 3 := by omega
  rcases hkk with rfl | rfl | rfl <;> exact sz_bad (by omega) (by omega) (by omega) (by omega)
theorem sz_out3 {m : List UInt8} (hl : ¬ m.length < 3) (h : 224 ≤ T.bt m 0) (h' : T.bt m 0 < 240) (hr : SzRel m 3) {x : Int} (hx : x = sv m (T.bt m 0 - 224) 3) :
    ((x < 2048 ∨ 1114111 < x ∨ (55296 ≤ x ∧ x ≤ 57343)) → T.wid m = 1 ∧ T.num m = -1) ∧ (¬ (x < 2048 ∨ 1114111 < x ∨ (55296 ≤ x ∧ x ≤ 57343)) → T.wid m = 3 ∧ T.num m = x) := by
  have c1 := hr.cont 1 (by omega) (by omega)
  have b1 := T.bt_lt m 1
  have c2 := hr.cont 2 (by omega) (by omega)
  have b2 := T.bt_lt m 2
  simp only [sv, Nat.reduceAdd, Nat.zero_add] at hx
  constructor
  · intro hh; exact sz_bad (by omega) (by omega) (by omega) (by omega)
  · intro hh
    have := sz_three (m := m) (by omega) (by omega) c1 c2 rfl (by omega)
    exact ⟨this.1, by rw [this.2, hx]; omega⟩

set_option maxHeartbeats 2000000 in
set_option maxRecDepth 100000 in
theorem size_three (m : List UInt8) (w : World) (hs : m.length ≤ 1000000) (hm : 0 < m.length) (h : 224 ≤ T.bt m 0) (h' : T.bt m 0 < 240) :
    Calls Tryz.prog 128 #[.string (B m)] w fun e w' => e = .returned (szRes m) ∧ w = w' := by
  by_cases hl : m.length < 3
  · have H := Lib.hid (szRes_of (sz_bad (m := m) (by omega) (by omega) (by omega) (by omega)))
    go_enter Tryz.func128, Tryz.ntmps128
    go_wp2
    go_ret2
    rw [H.out]
    exact ⟨rfl, rfl⟩
  · go_enter Tryz.func128, Tryz.ntmps128
    go_wp2
    go_loop [7, 8] (fun v i => ∃ k : Nat, i = .int .i64 k ∧ v = .int .i64 (sv m (T.bt m 0 - 224) k) ∧ 1 ≤ k ∧ k ≤ 3 ∧ SzRel m k) (fun _ i => 3 - (intOf i).toNat)
    case atStart => exact ⟨1, rfl, rfl, by omega, by omega, SzRel.start m⟩
    case round =>
      obtain ⟨k, rfl, rfl, hk1, hk2, hr⟩ := hrel
      have hvb := sv_bd (v0 := T.bt m 0 - 224) hr hk1 (by omega) (by omega)
      have hbk := T.bt_lt m k
      have HST := Lib.hid (sv_step m (T.bt m 0 - 224) k hk1)
      by_cases hlt : k < 3
      · have hkl : k < m.length := by omega
        by_cases c1 : 128 ≤ T.bt m k ∧ T.bt m k < 192
        · obtain ⟨c1, c1'⟩ := c1
          have HR := Lib.hid (hr.go c1 c1')
          generalize sv m (T.bt m 0 - 224) k = x at *
          go_wp2
          go_round
          case rel => first | exact ⟨k + 1, by go_num, by rw [HST.out], by omega, by omega, HR.out⟩ | (refine ⟨_, _, _, _, ?_, rfl, rfl, rfl, rfl⟩; exact ⟨k + 1, by go_num, by rw [HST.out], by omega, by omega, HR.out⟩)
          case measure => simp [intOf]; omega
        · have H := Lib.hid (szRes_of (sz_stop3 h h' hk1 hlt c1))
          generalize sv m (T.bt m 0 - 224) k = x at *
          by_cases c2 : T.bt m k < 128
          · go_wp2
            go_ret2
            rw [H.out]
            exact ⟨rfl, rfl⟩
          · have c3 : 192 ≤ T.bt m k := by omega
            go_wp2
            go_ret2
            rw [H.out]
            exact ⟨rfl, rfl⟩
      · obtain rfl : k = 3 := by omega
        have HO := Lib.hid (sz_out3 hl h h' hr rfl)
        generalize sv m (T.bt m 0 - 224) 3 = x at *
        by_cases e1 : x < 2048
        · have H := Lib.hid (szRes_of (HO.out.1 (.inl e1)))
          go_wp2
          go_ret2
          rw [H.out]
          exact ⟨rfl, rfl⟩
        by_cases e2 : 1114111 < x
        · have H := Lib.hid (szRes_of (HO.out.1 (.inr (.inl e2))))
          go_wp2
          go_ret2
          rw [H.out]
          exact ⟨rfl, rfl⟩
        by_cases e3 : 55296 ≤ x
        · by_cases e4 : x ≤ 57343
          · have H := Lib.hid (szRes_of (HO.out.1 (.inr (.inr ⟨e3, e4⟩))))
            go_wp2
            go_ret2
            rw [H.out]
            exact ⟨rfl, rfl⟩
          · have H := Lib.hid (szRes_of (HO.out.2 (by omega)))
            go_wp2
            go_ret2
            rw [H.out]
            exact ⟨rfl, rfl⟩
        · have H := Lib.hid (szRes_of (HO.out.2 (by omega)))
          go_wp2
          go_ret2
          rw [H.out]
          exact ⟨rfl, rfl⟩

theorem sz_stop4 {m : List UInt8} {k : Nat} (h : 240 ≤ T.bt m 0) (h' : T.bt m 0 < 248) (h1 : 1 ≤ k) (hk : k < 4) (hc : ¬ (128 ≤ T.bt m k ∧ T.bt m k < 192)) : T.wid m = 1 ∧ T.num m = -1 := by
  have hkk : k = 1 ∨ k = 2 ∨ k = 3 := by omega
  rcases hkk with rfl | rfl | rfl <;> exact sz_bad (by omega) (by omega) (by omega) (by omega)
theorem sz_out4 {m : List UInt8} (hl : ¬ m.length < 4) (h : 240 ≤ T.bt m 0) (h' : T.bt m 0 < 248) (hr : SzRel m 4) {x : Int} (hx : x = sv m (T.bt m 0 - 240) 4) :
    ((x < 65536 ∨ 1114111 < x ∨ (55296 ≤ x ∧ x ≤ 57343)) → T.wid m = 1 ∧ T.num m = -1) ∧ (¬ (x < 65536 ∨ 1114111 < x ∨ (55296 ≤ x ∧ x ≤ 57343)) → T.wid m = 4 ∧ T.num m = x) := by
  have c1 := hr.cont 1 (by omega) (by omega)
  have b1 := T.bt_lt m 1
  have c2 := hr.cont 2 (by omega) (by omega)
  have b2 := T.bt_lt m 2
  have c3 := hr.cont 3 (by omega) (by omega)
  have b3 := T.bt_lt m 3
  simp only [sv, Nat.reduceAdd, Nat.zero_add] at hx
  constructor
  · intro hh; exact sz_bad (by omega) (by omega) (by omega) (by omega)
  · intro hh
    have := sz_four (m := m) (by omega) (by omega) c1 c2 c3 rfl (by omega)
    exact ⟨this.1, by rw [this.2, hx]; omega⟩

set_option maxHeartbeats 2000000 in
set_option maxRecDepth 100000 in
theorem size_four (m : List UInt8) (w : World) (hs : m.length ≤ 1000000) (hm : 0 < m.length) (h : 240 ≤ T.bt m 0) (h' : T.bt m 0 < 248) :
    Calls Tryz.prog 128 #[.string (B m)] w fun e w' => e = .returned (szRes m) ∧ w = w' := by
  by_cases hl : m.length < 4
  · have H := Lib.hid (szRes_of (sz_bad (m := m) (by omega) (by omega) (by omega) (by omega)))
    go_enter Tryz.func128, Tryz.ntmps128
    go_wp2
    go_ret2
    rw [H.out]
    exact ⟨rfl, rfl⟩
  · go_enter Tryz.func128, Tryz.ntmps128
    go_wp2
    go_loop [7, 8] (fun v i => ∃ k : Nat, i = .int .i64 k ∧ v = .int .i64 (sv m (T.bt m 0 - 240) k) ∧ 1 ≤ k ∧ k ≤ 4 ∧ SzRel m k) (fun _ i => 4 - (intOf i).toNat)
    case atStart => exact ⟨1, rfl, rfl, by omega, by omega, SzRel.start m⟩
    case round =>
      obtain ⟨k, rfl, rfl, hk1, hk2, hr⟩ := hrel
      have hvb := sv_bd (v0 := T.bt m 0 - 240) hr hk1 (by omega) (by omega)
      have hbk := T.bt_lt m k
      have HST := Lib.hid (sv_step m (T.bt m 0 - 240) k hk1)
      by_cases hlt : k < 4
      · have hkl : k < m.length := by omega
        by_cases c1 : 128 ≤ T.bt m k ∧ T.bt m k < 192
        · obtain ⟨c1, c1'⟩ := c1
          have HR := Lib.hid (hr.go c1 c1')
          generalize sv m (T.bt m 0 - 240) k = x at *
          go_wp2
          go_round
          case rel => first | exact ⟨k + 1, by go_num, by rw [HST.out], by omega, by omega, HR.out⟩ | (refine ⟨_, _, _, _, ?_, rfl, rfl, rfl, rfl⟩; exact ⟨k + 1, by go_num, by rw [HST.out], by omega, by omega, HR.out⟩)
          case measure => simp [intOf]; omega
        · have H := Lib.hid (szRes_of (sz_stop4 h h' hk1 hlt c1))
          generalize sv m (T.bt m 0 - 240) k = x at *
          by_cases c2 : T.bt m k < 128
          · go_wp2
            go_ret2
            rw [H.out]
            exact ⟨rfl, rfl⟩
          · have c3 : 192 ≤ T.bt m k := by omega
            go_wp2
            go_ret2
            rw [H.out]
            exact ⟨rfl, rfl⟩
      · obtain rfl : k = 4 := by omega
        have HO := Lib.hid (sz_out4 hl h h' hr rfl)
        generalize sv m (T.bt m 0 - 240) 4 = x at *
        by_cases e1 : x < 65536
        · have H := Lib.hid (szRes_of (HO.out.1 (.inl e1)))
          go_wp2
          go_ret2
          rw [H.out]
          exact ⟨rfl, rfl⟩
        by_cases e2 : 1114111 < x
        · have H := Lib.hid (szRes_of (HO.out.1 (.inr (.inl e2))))
          go_wp2
          go_ret2
          rw [H.out]
          exact ⟨rfl, rfl⟩
        by_cases e3 : 55296 ≤ x
        · by_cases e4 : x ≤ 57343
          · have H := Lib.hid (szRes_of (HO.out.1 (.inr (.inr ⟨e3, e4⟩))))
            go_wp2
            go_ret2
            rw [H.out]
            exact ⟨rfl, rfl⟩
          · have H := Lib.hid (szRes_of (HO.out.2 (by omega)))
            go_wp2
            go_ret2
            rw [H.out]
            exact ⟨rfl, rfl⟩
        · have H := Lib.hid (szRes_of (HO.out.2 (by omega)))
          go_wp2
          go_ret2
          rw [H.out]
          exact ⟨rfl, rfl⟩

theorem size_l (m : List UInt8) (w : World) (hs : m.length ≤ 1000000) (hm : 0 < m.length) :
    Calls Tryz.prog 128 #[.string (B m)] w fun e w' => e = .returned (szRes m) ∧ w = w' := by
  by_cases h1 : T.bt m 0 < 192 ∨ 248 ≤ T.bt m 0
  · exact size_small m w hm h1
  by_cases h2 : T.bt m 0 < 224
  · exact size_two m w hs hm (by omega) h2
  by_cases h3 : T.bt m 0 < 240
  · exact size_three m w hs hm (by omega) h3
  · exact size_four m w hs hm (by omega) (by omega)
set_option maxHeartbeats 1000000 in
theorem refRunes_l (m : List UInt8) (w : World) (hs : m.length ≤ 1000000) :
    Calls Tryz.prog 96 #[.string (B m)] w fun e w' => ∃ v, e = .returned v ∧ w'.ownsRow w.heap.size 3 1 v (T.nums m).length (intCells (T.nums m)) ∧ Below w.heap.size w w' := by
  obtain ⟨i0, hi, hz0, hz1, hz2⟩ := info_parts Tryz.infoInt
  go_enter Tryz.func96, Tryz.ntmps96
  go_wp2
  go_loopw [3, 4] (fun v a wr => ∃ (pos : Nat) (acc : List Int), a = .int .i64 pos ∧ wr.ownsRow w.heap.size 3 1 v acc.length (intCells acc) ∧ Below w.heap.size w wr ∧ pos ≤ m.length ∧ RnRel m pos acc) (fun _ a _ => m.length - (intOf a).toNat)
  case atStart => exact ⟨0, [], rfl, World.ownsRow_nil _ _ _ _, Below.refl _ w, by omega, ⟨by simp, by simp⟩⟩
  case round =>
    obtain ⟨pos, acc, rfl, hown, hbw, hle, hg⟩ := hrel
    have hal := hg.le
    have hsz := hbw.size
    have HG := Lib.hid hg; clear hg
    by_cases hp : pos < m.length
    · have hne : m.drop pos ≠ [] := T.drop_ne hp
      have hwd := T.drop_wid hp
      have hwp := T.wid_pos (m.drop pos)
      have hnb := T.num_bd (m.drop pos)
      have HR := Lib.hid (HG.out.go hne)
      have hdl : (m.drop pos).length ≤ 1000000 := by simp; omega
      have hdp : 0 < (m.drop pos).length := by simp; omega
      have HNE := Lib.hid hne; clear hne
      have hps : pos ≤ (B m).size := by rw [size_B]; omega
      go_wp2_with fail
      with_reducible refine (size_l (m.drop pos) _ hdl hdp).mono ?_
      rintro e w' ⟨rfl, rfl⟩
      unfold szRes
      generalize T.wid (m.drop pos) = wd at *
      generalize T.num (m.drop pos) = nm at *
      go_wp2_with (at_builtin; refine wpList_append_own _ rfl _ _ 34 rfl w.heap.size 3 i0 (.int .i64 0) 1 8 Tryz.underlying34 hi hz0 hz1 hz2 rfl (by decide) _ _ _ rfl (hown.alloc _) ⟨wr.heap.size, 0, none⟩ 1 1 [.int .i64 nm] rfl rfl (cell_one_new _ _ _) (by intro u hu; simp at hu; subst hu; rfl) (by unfold maxLen; omega) (by omega) (by simp; omega) ?_; intro v' w1 hown' hgrow _)
      have hbw3 := below_grown hbw hsz hown hgrow
      have hown3 : w1.ownsRow w.heap.size 3 1 v' (acc ++ [nm]).length (intCells (acc ++ [nm])) := by simpa [intCells] using hown'
      clear hown' hgrow
      go_wp2
      go_roundw
      case rel => exact ⟨pos + wd, acc ++ [nm], by go_num, hown3, hbw3, hwd, HR.out⟩
      case measure => simp [intOf]; omega
    · have HS := Lib.hid (HG.out.done (by omega))
      go_wp2
      go_ret
      refine ⟨_, rfl, ?_, hbw⟩
      rw [HS.out]
      exact hown

theorem nameR_classes (r : Int) :
    ((97 ≤ r) ∧ (r ≤ 122) ∧ nameR r = true) ∨
    ((65 ≤ r) ∧ (r ≤ 90) ∧ nameR r = true) ∨
    ((48 ≤ r) ∧ (r ≤ 57) ∧ nameR r = true) ∨
    ((r < 48) ∧ (r != 45) = false ∧ nameR r = true) ∨
    ((91 ≤ r) ∧ (r < 97) ∧ (r != 45) = true ∧ (r != 95) = false ∧ nameR r = true) ∨
    ((r < 48) ∧ (r != 45) = true ∧ (r != 95) = true ∧ (r != 46) = false ∧ nameR r = true) ∨
    ((160 ≤ r) ∧ (r != 45) = true ∧ (r != 95) = true ∧ (r != 46) = true ∧ nameR r = true) ∨
    ((122 < r) ∧ (r < 160) ∧ (r != 45) = true ∧ (r != 95) = true ∧ (r != 46) = true ∧ nameR r = false) ∨
    ((91 ≤ r) ∧ (r < 97) ∧ (r != 45) = true ∧ (r != 95) = true ∧ (r != 46) = true ∧ nameR r = false) ∨
    ((58 ≤ r) ∧ (r < 65) ∧ (r != 45) = true ∧ (r != 95) = true ∧ (r != 46) = true ∧ nameR r = false) ∨
    ((r < 48) ∧ (r != 45) = true ∧ (r != 95) = true ∧ (r != 46) = true ∧ nameR r = false) := by
  simp only [bne_iff_ne, bne_eq_false_iff_eq, nameR, Bool.or_eq_true, Bool.and_eq_true, decide_eq_true_eq, Bool.or_eq_false_iff, Bool.and_eq_false_iff, decide_eq_false_iff_not, beq_iff_eq, beq_eq_false_iff_ne]
  omega

theorem all_take {l : List Int} {k : Nat} (h : k < l.length) (ha : (l.take k).all nameR = true) (hn : nameR l[k] = true) : (l.take (k + 1)).all nameR = true := by
  rw [List.take_succ_eq_append_getElem h, List.all_append, ha]; simp [hn]
theorem all_stop {l : List Int} {k : Nat} (h : k < l.length) (hn : nameR l[k] = false) : l.all nameR = false := by
  rw [List.all_eq_false]
  exact ⟨l[k], List.getElem_mem h, by simp [hn]⟩

set_option maxHeartbeats 4000000 in
theorem refName_l (m : List UInt8) (w : World) (hs : m.length ≤ 1000000) :
    Calls Tryz.prog 66 #[.string (B m)] w fun e w' => e = .returned (.bool (nameL m)) ∧ Below w.heap.size w w' := by
  go_enter Tryz.func66, Tryz.ntmps66
  go_wp2_with fail
  with_reducible refine (refRunes_l m w hs).mono ?_
  rintro e w1 ⟨v, rfl, hown, hb1⟩
  have hnl : nameL m = (decide (1 ≤ (T.nums m).length) && decide ((T.nums m).length ≤ 32) && (T.nums m).all nameR) := rfl
  generalize T.nums m = A at *
  have HN := Lib.hid hnl; clear hnl
  obtain ⟨a, cap, hv, hca⟩ := reads_own hown
  rw [intCells_len] at hv hca
  subst hv
  have HCA := Lib.hid hca; clear hca hown
  by_cases h1 : A.length < 1
  · have H := Lib.hid (show nameL m = false by rw [HN.out]; simp; omega)
    go_wp2
    go_ret
    rw [H.out]
    exact ⟨rfl, hb1⟩
  by_cases h2 : 32 < A.length
  · have H := Lib.hid (show nameL m = false by rw [HN.out]; simp; omega)
    go_wp2
    go_ret
    rw [H.out]
    exact ⟨rfl, hb1⟩
  have HM := Lib.hid (show nameL m = A.all nameR by rw [HN.out, decide_eq_true (by omega), decide_eq_true (by omega)]; simp)
  go_wp2
  go_loop [4] (fun i => ∃ k : Nat, i = .int .i64 k ∧ k ≤ A.length ∧ (A.take k).all nameR = true) (fun i => A.length - (intOf i).toNat)
  case atStart => exact ⟨0, rfl, by omega, by simp⟩
  case round =>
    obtain ⟨k, rfl, hk, ha⟩ := hrel
    have HA := Lib.hid ha; clear ha
    by_cases hlt : k < A.length
    · obtain ⟨b1, o1, rfl, hc1⟩ := HCA.out k hlt
      have hc : w1.cell? ⟨b1, o1 + k, none⟩ = some (.int .i64 A[k]) := by rw [hc1]; simp [intCells, hlt]
      have hi1 : (k : Int) < (A.length : Int) := by omega
      have HT := Lib.hid (fun h => all_take hlt HA.out h)
      have HF := Lib.hid (fun h => HM.out.trans (all_stop hlt h))
      clear hc1
      generalize A[k] = r at *
      rcases nameR_classes r with ⟨x, y, n⟩ | ⟨x, y, n⟩ | ⟨x, y, n⟩ | ⟨x, e1, n⟩ | ⟨x, y, e1, e2, n⟩ | ⟨x, e1, e2, e3, n⟩ | ⟨x, e1, e2, e3, n⟩ | ⟨x, y, e1, e2, e3, n⟩ | ⟨x, y, e1, e2, e3, n⟩ | ⟨x, y, e1, e2, e3, n⟩ | ⟨x, e1, e2, e3, n⟩
      all_goals
        have N := Lib.hid n
        clear n
        try (have d122 : decide (r ≤ 122) = false := (by simp; omega))
        try (have d90 : decide (r ≤ 90) = false := (by simp; omega))
        try (have d57 : decide (r ≤ 57) = false := (by simp; omega))
      iterate 7
        · have H := Lib.hid (HT.out N.out)
          go_wp2
          go_round
          case rel => first | exact ⟨k + 1, by go_num, by omega, H.out⟩ | ((repeat apply Exists.intro); exact ⟨⟨k + 1, by go_num, by omega, H.out⟩, rfl⟩)
          case measure => simp [intOf]; omega
      all_goals
        have H := Lib.hid (HF.out N.out)
        go_wp2
        go_ret
        rw [H.out]
        exact ⟨rfl, hb1⟩
    · have H := Lib.hid (show nameL m = true by rw [HM.out, ← HA.out, List.take_of_length_le (by omega)])
      go_wp2
      go_ret
      rw [H.out]
      exact ⟨rfl, hb1⟩
end Go.Proofs.YtmfhipjceeijmaaGreatDoor
