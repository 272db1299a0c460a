/-
  Walks of the small functions of package text: runeNumber, isGap, isHidden, hexValue, isNameRune.
-/
import Derived.Test.YtnaabapahblhmaaRows
import Derived.Test.YtnaabapahblhmaaShelf
import Derived.Test.YtnaabapahblhmaaSpec
import Derived.Lib.OthersKept
import Derived.Lib.Hide
import Derived.WalkKit
import Derived.WalkSpells
namespace Go.Proofs.Ytnaabapahblhmaa
open Go.RowKit

theorem ret_bool {a b : Bool} (h : a = b) : Ending.returned (.bool a) = .returned (.bool b) := by rw [h]
theorem ret_int {k : IntKind} {a b : Int} (h : a = b) : Ending.returned (.int k a) = .returned (.int k b) := by rw [h]

theorem ext_list (s : ByteArray) (a b : Nat) : (s.extract a b).data.toList = (s.data.toList.drop a).take (b - a) := by
  simp [ByteArray.data_extract]
theorem ext_drop (s : ByteArray) (i : Nat) : (s.extract i s.size).data.toList = s.data.toList.drop i := by
  rw [ext_list, List.take_of_length_le]
  simp

def rawAt (s : ByteArray) (pos : Nat) : Int := T.raw (s.data.toList.drop pos)
def numAt (s : ByteArray) (pos : Nat) : Int := T.num (s.data.toList.drop pos)
def widAt (s : ByteArray) (pos : Nat) : Nat := T.wid (s.data.toList.drop pos)

theorem next_at {P : Program} (w : World) (k : Nat) (s : ByteArray) (pos : Nat) (ty : TypeId) (hk : w.heap[k]? = some (.stringIter s pos)) (h : pos < s.size) :
    (Instr.next (.pointer (some ⟨k, 0, none⟩)) true ty).run P w =
      .ok (.tuple #[.bool true, .int .i64 pos, .int .i32 (rawAt s pos)]) (w.iterAt k s (pos + widAt s pos)) := by
  rw [Lib.run_next_any_at w k s pos ty hk h, T.decode_drop]; rfl

set_option maxHeartbeats 400000 in
theorem runeNumber_other (s : ByteArray) (i : Nat) (r : Int) (w : World) (hr : (r == 65533) = false) :
    Calls Try.prog 27 #[.string s, .int .i64 i, .int .i32 r] w fun e w' => e = .returned (.int .i32 r) ∧ w = w' := by
  go_enter Try.func27, Try.ntmps27
  go_wp2
  go_ret
  exact ⟨rfl, rfl⟩

set_option maxHeartbeats 400000 in
theorem runeNumber_bad (s : ByteArray) (i : Nat) (w : World) (hi : i ≤ s.size) (p : Bool)
    (hp : Lib.hasPrefix (s.data.toList.drop i) [239, 191, 189] = p) :
    Calls Try.prog 27 #[.string s, .int .i64 i, .int .i32 65533] w fun e w' => e = .returned (.int .i32 (if p then 65533 else -1)) ∧ w = w' := by
  go_enter Try.func27, Try.ntmps27
  have he := ext_drop s i
  have HE := Lib.hid he; clear he
  have HP := Lib.hid hp; clear hp
  go_wp2_with fail
  refine (Try.strings_HasPrefix _ _ _).mono ?_
  rintro e w' ⟨rfl, rfl⟩
  rw [HE.out, HP.out]
  cases p
  · go_wp2
    go_ret
    exact ⟨rfl, rfl⟩
  · go_wp2
    go_ret
    exact ⟨rfl, rfl⟩

theorem numAt_other (s : ByteArray) (i : Nat) (h : rawAt s i ≠ 65533) : numAt s i = rawAt s i := by
  unfold numAt rawAt at *
  rcases T.kind (s.data.toList.drop i) with ⟨_, a, b, _⟩ | ⟨_, a, b, _⟩ | ⟨_, a, b, _⟩
  · rw [a, b]
  · exact absurd b h
  · exact a

set_option maxHeartbeats 400000 in
/-- What 'runeNumber' tells at a place of a text. -/
theorem runeNumber_at (s : ByteArray) (i : Nat) (w : World) (hi : i ≤ s.size) :
    Calls Try.prog 27 #[.string s, .int .i64 i, .int .i32 (rawAt s i)] w fun e w' => e = .returned (.int .i32 (numAt s i)) ∧ w = w' := by
  by_cases h : rawAt s i = 65533
  · have h2 := T.fffd (l := s.data.toList.drop i) h
    rw [h]
    refine (runeNumber_bad s i w hi _ rfl).mono ?_
    rintro e w' ⟨rfl, rfl⟩
    refine ⟨?_, rfl⟩
    have h3 : numAt s i = if Lib.hasPrefix (s.data.toList.drop i) [239, 191, 189] then 65533 else -1 := by
      by_cases c : Lib.hasPrefix (s.data.toList.drop i) [239, 191, 189] = true
      · rw [if_pos c]; exact h2.1 c
      · rw [if_neg c]
        have c2 : ¬ numAt s i = 65533 := fun e => c (h2.2 e)
        unfold numAt rawAt at *
        rcases T.kind (s.data.toList.drop i) with ⟨_, a, b, _⟩ | ⟨_, a, b, _⟩ | ⟨_, a, b, _⟩ <;> omega
    rw [h3]
  · rw [numAt_other s i h]
    exact runeNumber_other s i _ w (beq_eq_false_iff_ne.2 h)

set_option maxHeartbeats 400000 in
theorem isGap_any (r : Int) (w : World) : Calls Try.prog 44 #[.int .i32 r] w fun e w' => e = .returned (.bool (r == 32 || r == 9)) ∧ w = w' := by
  go_enter Try.func44, Try.ntmps44
  by_cases h : r = 32
  · subst h
    go_wp2
    go_ret
    exact ⟨rfl, rfl⟩
  · have h1 : (r == 32) = false := beq_eq_false_iff_ne.2 h
    go_wp2
    go_ret
    exact ⟨by simp [h1], rfl⟩

set_option maxHeartbeats 400000 in
theorem isHidden_any (r : Int) (w : World) : Calls Try.prog 32 #[.int .i32 r] w fun e w' => e = .returned (.bool (decide (r < 32) || r == 127)) ∧ w = w' := by
  go_enter Try.func32, Try.ntmps32
  by_cases h : r < 32
  · go_wp2
    go_ret
    exact ⟨by simp [h], rfl⟩
  · go_wp2
    go_ret
    exact ⟨ret_bool (by simp; omega), rfl⟩

def hexV (r : Int) : Int := if 48 ≤ r ∧ r ≤ 57 then r - 48 else if 97 ≤ r ∧ r ≤ 102 then r - 97 + 10 else 0
set_option maxHeartbeats 400000 in
theorem hexValue_any (r : Int) (w : World) : Calls Try.prog 41 #[.int .i32 r] w fun e w' => e = .returned (.int .i64 (hexV r)) ∧ w = w' := by
  go_enter Try.func41, Try.ntmps41
  go_wp2
  all_goals
    go_ret
    exact ⟨ret_int (by unfold hexV; repeat' split; all_goals omega), rfl⟩

def nameR (r : Int) : Bool := (97 ≤ r && r ≤ 122) || (65 ≤ r && r ≤ 90) || (48 ≤ r && r ≤ 57) || r == 45 || r == 95 || r == 46 || 160 ≤ r
set_option maxHeartbeats 400000 in
theorem isNameRune_any (r : Int) (w : World) : Calls Try.prog 29 #[.int .i32 r] w fun e w' => e = .returned (.bool (nameR r)) ∧ w = w' := by
  go_enter Try.func29, Try.ntmps29
  go_wp2
  all_goals
    go_ret
    exact ⟨ret_bool (by rw [Bool.eq_iff_iff]; simp_all [nameR] <;> omega), rfl⟩
end Go.Proofs.Ytnaabapahblhmaa
