/-
  Own texts, joined: TextSpec
-/
import Derived.Lib.DecodeN
import Derived.Lib.RuneBytes

/-
  Plain facts on texts as lists of bytes: the rune that a list begins with, its number and its width, the cutting of a list into runes. No program in this text.
-/
namespace Go.Proofs.YtmfhipjceeijmaaGreatDoor.T

def bt (l : List UInt8) (i : Nat) : Nat := (l.getD i 0).toNat
theorem bt_lt (l : List UInt8) (i : Nat) : bt l i < 256 := (l.getD i 0).toNat_lt

def decN (l : List UInt8) : Nat × Nat := Lib.decodeN l.length (bt l 0) (bt l 1) (bt l 2) (bt l 3)

theorem get_bang (s : ByteArray) (i : Nat) : (s.get! i).toNat = bt s.data.toList i := by
  unfold bt
  show (s.data[i]!).toNat = _
  rw [getElem!_def]
  simp [List.getD_eq_getElem?_getD]
  cases s.data[i]? <;> rfl

theorem bt_drop (l : List UInt8) (i k : Nat) : bt (l.drop i) k = bt l (i + k) := by
  simp [bt, List.getD_eq_getElem?_getD]

theorem decode_drop (s : ByteArray) (i : Nat) : Utf8.decode s i = decN (s.data.toList.drop i) := by
  rw [Lib.decode_at, decN]
  simp only [bt_drop, get_bang, List.length_drop, Array.length_toList, Nat.add_zero]
  rfl

/-- The number of the rune that a list begins with: -1 where none begins. -/
def num (l : List UInt8) : Int := if decN l = (65533, 1) then -1 else (decN l).1
def wid (l : List UInt8) : Nat := (decN l).2
/-- What a range tells of it. -/
def raw (l : List UInt8) : Int := (decN l).1

def Dec (l : List UInt8) : Prop :=
  (bt l 0 < 128 ∧ decN l = (bt l 0, 1)) ∨
  (128 ≤ bt l 0 ∧ decN l = (65533, 1)) ∨
  (2 ≤ l.length ∧ bt l 0 / 32 = 6 ∧ bt l 1 / 64 = 2 ∧ ∃ v : Nat, v = bt l 0 % 32 * 64 + bt l 1 % 64 ∧ 128 ≤ v ∧ decN l = (v, 2)) ∨
  (3 ≤ l.length ∧ bt l 0 / 16 = 14 ∧ bt l 1 / 64 = 2 ∧ bt l 2 / 64 = 2 ∧ ∃ v : Nat, v = bt l 0 % 16 * 4096 + bt l 1 % 64 * 64 + bt l 2 % 64 ∧ (2048 ≤ v ∧ (v < 55296 ∨ 57344 ≤ v)) ∧ decN l = (v, 3)) ∨
  (4 ≤ l.length ∧ bt l 0 / 8 = 30 ∧ bt l 1 / 64 = 2 ∧ bt l 2 / 64 = 2 ∧ bt l 3 / 64 = 2 ∧ ∃ v : Nat, v = bt l 0 % 8 * 262144 + bt l 1 % 64 * 4096 + bt l 2 % 64 * 64 + bt l 3 % 64 ∧ (65536 ≤ v ∧ v ≤ 1114111) ∧ decN l = (v, 4))

set_option maxHeartbeats 1000000 in
theorem dec_cases (l : List UInt8) : Dec l := by
  have h0 := bt_lt l 0; have h1 := bt_lt l 1; have h2 := bt_lt l 2; have h3 := bt_lt l 3
  by_cases c0 : bt l 0 < 128
  · exact .inl ⟨c0, by simp [decN, Lib.decodeN, c0]⟩
  by_cases c1 : bt l 0 / 32 = 6 ∧ (1 < l.length ∧ bt l 1 / 64 = 2)
  · by_cases d : bt l 0 % 32 * 64 + bt l 1 % 64 ≥ 128
    · exact .inr (.inr (.inl ⟨by omega, c1.1, c1.2.2, _, rfl, d, by simp only [decN, Lib.decodeN, if_neg c0, if_pos c1, if_pos d]⟩))
    · exact .inr (.inl ⟨by omega, by simp only [decN, Lib.decodeN, if_neg c0, if_pos c1, if_neg d]⟩)
  by_cases c2 : bt l 0 / 16 = 14 ∧ (1 < l.length ∧ bt l 1 / 64 = 2) ∧ (2 < l.length ∧ bt l 2 / 64 = 2)
  · by_cases d : bt l 0 % 16 * 4096 + bt l 1 % 64 * 64 + bt l 2 % 64 ≥ 2048 ∧ (bt l 0 % 16 * 4096 + bt l 1 % 64 * 64 + bt l 2 % 64 < 55296 ∨ (57344 ≤ bt l 0 % 16 * 4096 + bt l 1 % 64 * 64 + bt l 2 % 64 ∧ bt l 0 % 16 * 4096 + bt l 1 % 64 * 64 + bt l 2 % 64 ≤ 1114111))
    · exact .inr (.inr (.inr (.inl ⟨by omega, c2.1, c2.2.1.2, c2.2.2.2, _, rfl, ⟨d.1, by omega⟩, by simp only [decN, Lib.decodeN, if_neg c0, if_neg c1, if_pos c2, if_pos d]⟩)))
    · exact .inr (.inl ⟨by omega, by simp only [decN, Lib.decodeN, if_neg c0, if_neg c1, if_pos c2, if_neg d]⟩)
  by_cases c3 : bt l 0 / 8 = 30 ∧ (1 < l.length ∧ bt l 1 / 64 = 2) ∧ (2 < l.length ∧ bt l 2 / 64 = 2) ∧ (3 < l.length ∧ bt l 3 / 64 = 2)
  · by_cases d : bt l 0 % 8 * 262144 + bt l 1 % 64 * 4096 + bt l 2 % 64 * 64 + bt l 3 % 64 ≥ 65536 ∧ (bt l 0 % 8 * 262144 + bt l 1 % 64 * 4096 + bt l 2 % 64 * 64 + bt l 3 % 64 < 55296 ∨ (57344 ≤ bt l 0 % 8 * 262144 + bt l 1 % 64 * 4096 + bt l 2 % 64 * 64 + bt l 3 % 64 ∧ bt l 0 % 8 * 262144 + bt l 1 % 64 * 4096 + bt l 2 % 64 * 64 + bt l 3 % 64 ≤ 1114111))
    · exact .inr (.inr (.inr (.inr ⟨by omega, c3.1, c3.2.1.2, c3.2.2.1.2, c3.2.2.2.2, _, rfl, by omega, by simp only [decN, Lib.decodeN, if_neg c0, if_neg c1, if_neg c2, if_pos c3, if_pos d]⟩)))
    · exact .inr (.inl ⟨by omega, by simp only [decN, Lib.decodeN, if_neg c0, if_neg c1, if_neg c2, if_pos c3, if_neg d]⟩)
  · exact .inr (.inl ⟨by omega, by simp only [decN, Lib.decodeN, if_neg c0, if_neg c1, if_neg c2, if_neg c3]⟩)

theorem wid_pos (l : List UInt8) : 1 ≤ wid l := by
  unfold wid; rcases dec_cases l with ⟨a, e⟩ | ⟨a, e⟩ | ⟨hl, a, b, v, hv, hh, e⟩ | ⟨hl, a, b, c, v, hv, hh, e⟩ | ⟨hl, a, b, c, d, v, hv, hh, e⟩ <;> rw [e] <;> simp
theorem wid_le4 (l : List UInt8) : wid l ≤ 4 := by
  unfold wid; rcases dec_cases l with ⟨a, e⟩ | ⟨a, e⟩ | ⟨hl, a, b, v, hv, hh, e⟩ | ⟨hl, a, b, c, v, hv, hh, e⟩ | ⟨hl, a, b, c, d, v, hv, hh, e⟩ <;> rw [e] <;> simp
theorem len_pos {l : List UInt8} (h : l ≠ []) : 1 ≤ l.length := by cases l with | nil => exact absurd rfl h | cons a r => simp
theorem wid_le {l : List UInt8} (h : l ≠ []) : wid l ≤ l.length := by
  have := len_pos h
  unfold wid; rcases dec_cases l with ⟨a, e⟩ | ⟨a, e⟩ | ⟨hl, a, b, v, hv, hh, e⟩ | ⟨hl, a, b, c, v, hv, hh, e⟩ | ⟨hl, a, b, c, d, v, hv, hh, e⟩ <;> rw [e] <;> simp <;> omega
theorem raw_bd (l : List UInt8) : 0 ≤ raw l ∧ raw l ≤ 1114111 := by
  have h0 := bt_lt l 0; have h1 := bt_lt l 1; have h2 := bt_lt l 2; have h3 := bt_lt l 3
  unfold raw; rcases dec_cases l with ⟨a, e⟩ | ⟨a, e⟩ | ⟨hl, a, b, v, hv, hh, e⟩ | ⟨hl, a, b, c, v, hv, hh, e⟩ | ⟨hl, a, b, c, d, v, hv, hh, e⟩ <;> rw [e] <;> simp <;> omega
theorem num_bd (l : List UInt8) : -1 ≤ num l ∧ num l ≤ 1114111 := by
  have := raw_bd l
  unfold num raw at *; split <;> omega

/-- The kinds of a rune, in the words that the walks use. -/
def Kind (l : List UInt8) : Prop :=
  (bt l 0 < 128 ∧ num l = bt l 0 ∧ raw l = bt l 0 ∧ wid l = 1) ∨
  (128 ≤ bt l 0 ∧ num l = -1 ∧ raw l = 65533 ∧ wid l = 1) ∨
  (128 ≤ bt l 0 ∧ num l = raw l ∧ 128 ≤ raw l ∧ 2 ≤ wid l ∧ ∀ i, i < wid l → 128 ≤ bt l i)

theorem kind (l : List UInt8) : Kind l := by
  have h0 := bt_lt l 0; have h1 := bt_lt l 1; have h2 := bt_lt l 2; have h3 := bt_lt l 3
  rcases dec_cases l with ⟨a, e⟩ | ⟨a, e⟩ | ⟨hl, a, b, v, hv, hh, e⟩ | ⟨hl, a, b, c, v, hv, hh, e⟩ | ⟨hl, a, b, c, d, v, hv, hh, e⟩
  · exact .inl ⟨a, by simp [num, e]; omega, by simp [raw, e], by simp [wid, e]⟩
  · exact .inr (.inl ⟨a, by simp [num, e], by simp [raw, e], by simp [wid, e]⟩)
  ·
    refine .inr (.inr ⟨by omega, by simp [num, raw, e], by simp [raw, e]; omega, by simp [wid, e], ?_⟩)
    intro i hi; simp [wid, e] at hi
    match i, hi with
    | 0, _ => omega
    | 1, _ => omega
  ·
    refine .inr (.inr ⟨by omega, by simp [num, raw, e], by simp [raw, e]; omega, by simp [wid, e], ?_⟩)
    intro i hi; simp [wid, e] at hi
    match i, hi with
    | 0, _ => omega
    | 1, _ => omega
    | 2, _ => omega
  ·
    refine .inr (.inr ⟨by omega, by simp [num, raw, e], by simp [raw, e]; omega, by simp [wid, e], ?_⟩)
    intro i hi; simp [wid, e] at hi
    match i, hi with
    | 0, _ => omega
    | 1, _ => omega
    | 2, _ => omega
    | 3, _ => omega

theorem u8_of {x : UInt8} {n : Int} (h : n = x.toNat) : n.toNat.toUInt8 = x := by
  subst h
  simp

theorem of2 {l : List UInt8} (h : 2 ≤ l.length) : ∃ x y r, l = x :: y :: r := by
  match l, h with
  | x :: y :: r, _ => exact ⟨x, y, r, rfl⟩
theorem of3 {l : List UInt8} (h : 3 ≤ l.length) : ∃ x y z r, l = x :: y :: z :: r := by
  match l, h with
  | x :: y :: z :: r, _ => exact ⟨x, y, z, r, rfl⟩
theorem of4 {l : List UInt8} (h : 4 ≤ l.length) : ∃ x y z t r, l = x :: y :: z :: t :: r := by
  match l, h with
  | x :: y :: z :: t :: r, _ => exact ⟨x, y, z, t, r, rfl⟩
theorem of_prefix {l : List UInt8} (h : ([239, 191, 189] : List UInt8).isPrefixOf l = true) : ∃ r, l = 239 :: 191 :: 189 :: r := by
  match l, h with
  | x :: y :: z :: r, h => simp [List.isPrefixOf] at h; obtain ⟨rfl, rfl, rfl⟩ := h; exact ⟨r, rfl⟩
  | [x, y], h => simp [List.isPrefixOf] at h
  | [x], h => simp [List.isPrefixOf] at h
  | [], h => simp [List.isPrefixOf] at h

/-- 'HasPrefix(s[i:], "\uFFFD")' tells a rune 65533 from a byte that begins none. -/
theorem fffd {l : List UInt8} (h : raw l = 65533) : (([239, 191, 189] : List UInt8).isPrefixOf l = true) ↔ num l = 65533 := by
  have h0 := bt_lt l 0; have h1 := bt_lt l 1; have h2 := bt_lt l 2; have h3 := bt_lt l 3
  constructor
  · intro hp
    obtain ⟨r, rfl⟩ := of_prefix hp
    have e : decN (239 :: 191 :: 189 :: r) = (65533, 3) := by simp [decN, bt, Lib.decodeN]
    simp [num, e]
  · intro hn
    rcases dec_cases l with ⟨a, e⟩ | ⟨a, e⟩ | ⟨hl, a, b, v, hv, hh, e⟩ | ⟨hl, a, b, c, v, hv, hh, e⟩ | ⟨hl, a, b, c, d, v, hv, hh, e⟩
    · simp [raw, e] at h; omega
    · simp [num, e] at hn
    · simp [raw, e] at h; omega
    · simp [raw, e] at h
      obtain ⟨x, y, z, r, rfl⟩ := of3 hl
      simp only [bt, List.getD_cons_zero, List.getD_cons_succ] at *
      have hx : x = 239 := UInt8.toNat_inj.1 (by show _ = 239; omega)
      have hy : y = 191 := UInt8.toNat_inj.1 (by show _ = 191; omega)
      have hz : z = 189 := UInt8.toNat_inj.1 (by show _ = 189; omega)
      subst hx; subst hy; subst hz
      simp [List.isPrefixOf]
    · simp [raw, e] at h; omega

/-! ### rune by rune -/
def scanF {α : Type} (g : List UInt8 → List α) : Nat → List UInt8 → List α
  | 0, _ => []
  | f + 1, l => if l = [] then [] else g l ++ scanF g f (l.drop (wid l))
def scan {α : Type} (g : List UInt8 → List α) (l : List UInt8) : List α := scanF g l.length l

theorem scanF_nil {α : Type} (g : List UInt8 → List α) (f : Nat) : scanF g f [] = [] := by cases f <;> simp [scanF]
theorem scanF_eq {α : Type} (g : List UInt8 → List α) : ∀ (f h : Nat) (l : List UInt8), l.length ≤ f → l.length ≤ h → scanF g f l = scanF g h l
  | 0, h, l, a, _ => by have : l = [] := List.length_eq_zero_iff.1 (by omega); subst this; rw [scanF_nil, scanF_nil]
  | f + 1, 0, l, _, b => by have : l = [] := List.length_eq_zero_iff.1 (by omega); subst this; rw [scanF_nil, scanF_nil]
  | f + 1, h + 1, l, a, b => by
    simp only [scanF]
    split
    · rfl
    · have := wid_pos l
      rw [scanF_eq g f h (l.drop (wid l)) (by simp; omega) (by simp; omega)]
theorem scan_nil {α : Type} (g : List UInt8 → List α) : scan g [] = [] := rfl
theorem scan_cons {α : Type} (g : List UInt8 → List α) {l : List UInt8} (h : l ≠ []) : scan g l = g l ++ scan g (l.drop (wid l)) := by
  have := len_pos h
  have hw := wid_pos l
  obtain ⟨k, hk⟩ : ∃ k, l.length = k + 1 := ⟨l.length - 1, by omega⟩
  unfold scan
  rw [hk, scanF, if_neg h]
  rw [scanF_eq g k (l.drop (wid l)).length (l.drop (wid l)) (by simp; omega) (Nat.le_refl _)]

def nums (l : List UInt8) : List Int := scan (fun m => [num m]) l
def raws (l : List UInt8) : List Int := scan (fun m => [raw m]) l
theorem nums_cons {l : List UInt8} (h : l ≠ []) : nums l = num l :: nums (l.drop (wid l)) := by simp [nums, scan_cons _ h]
theorem raws_cons {l : List UInt8} (h : l ≠ []) : raws l = raw l :: raws (l.drop (wid l)) := by simp [raws, scan_cons _ h]
theorem drop_ne {s : List UInt8} {pos : Nat} (h : pos < s.length) : s.drop pos ≠ [] := by
  intro e
  have := congrArg List.length e
  simp at this; omega
theorem drop_wid {s : List UInt8} {pos : Nat} (h : pos < s.length) : pos + wid (s.drop pos) ≤ s.length := by
  have := wid_le (drop_ne h)
  simp at this; omega
theorem decN_two {x y : UInt8} {X : List UInt8} (h0 : x.toNat / 32 = 6) (h1 : y.toNat / 64 = 2) (h : 128 ≤ x.toNat % 32 * 64 + y.toNat % 64) : decN (x :: y :: X) = (x.toNat % 32 * 64 + y.toNat % 64, 2) := by
  have a : ¬ x.toNat < 128 := by omega
  simp [decN, bt, Lib.decodeN, h0, h1, h, a]
theorem decN_three {x y z : UInt8} {X : List UInt8} {v : Nat} (h0 : x.toNat / 16 = 14) (h1 : y.toNat / 64 = 2) (h2 : z.toNat / 64 = 2) (hv : v = x.toNat % 16 * 4096 + y.toNat % 64 * 64 + z.toNat % 64)
    (h : 2048 ≤ v ∧ (v < 55296 ∨ 57344 ≤ v)) : decN (x :: y :: z :: X) = (v, 3) := by
  have a : ¬ x.toNat < 128 := by omega
  have b : ¬ x.toNat / 32 = 6 := by omega
  have hz := z.toNat_lt
  have c : v ≥ 2048 ∧ (v < 55296 ∨ 57344 ≤ v ∧ v ≤ 1114111) := by omega
  simp only [decN, bt, Lib.decodeN, List.getD_cons_zero, List.getD_cons_succ, if_neg a, b, false_and, if_false, ← hv, if_pos c]
  rw [if_pos ⟨h0, ⟨by simp, h1⟩, ⟨by simp, h2⟩⟩]
theorem decN_four {x y z t : UInt8} {X : List UInt8} {v : Nat} (h0 : x.toNat / 8 = 30) (h1 : y.toNat / 64 = 2) (h2 : z.toNat / 64 = 2) (h3 : t.toNat / 64 = 2)
    (hv : v = x.toNat % 8 * 262144 + y.toNat % 64 * 4096 + z.toNat % 64 * 64 + t.toNat % 64) (h : 65536 ≤ v ∧ v ≤ 1114111) : decN (x :: y :: z :: t :: X) = (v, 4) := by
  have a : ¬ x.toNat < 128 := by omega
  have b : ¬ x.toNat / 32 = 6 := by omega
  have b2 : ¬ x.toNat / 16 = 14 := by omega
  have c : v ≥ 65536 ∧ (v < 55296 ∨ 57344 ≤ v ∧ v ≤ 1114111) := by omega
  simp only [decN, bt, Lib.decodeN, List.getD_cons_zero, List.getD_cons_succ, if_neg a, b, b2, false_and, if_false, ← hv, if_pos c]
  rw [if_pos ⟨h0, ⟨by simp, h1⟩, ⟨by simp, h2⟩, ⟨by simp, h3⟩⟩]

end Go.Proofs.YtmfhipjceeijmaaGreatDoor.T
namespace Go.Proofs.YtmfhipjceeijmaaGreatDoor
def nameR (r : Int) : Bool := (97 ≤ r && r ≤ 122) || (65 ≤ r && r ≤ 90) || (48 ≤ r && r ≤ 57) || r == 45 || r == 95 || r == 46 || 160 ≤ r
def nameL (l : List UInt8) : Bool := decide (1 ≤ (T.nums l).length) && decide ((T.nums l).length ≤ 32) && (T.nums l).all nameR
theorem T.nums_wid : ∀ (n : Nat) (l : List UInt8), l.length ≤ n → l.length ≤ 4 * (T.nums l).length
  | 0, l, h => by omega
  | n + 1, l, h => by
    by_cases hl : l = []
    · subst hl; simp
    · have h1 := T.wid_pos l
      have h2 := T.wid_le4 l
      have h3 := T.len_pos hl
      have := T.nums_wid n (l.drop (T.wid l)) (by rw [List.length_drop]; omega)
      rw [T.nums_cons hl, List.length_cons]
      rw [List.length_drop] at this
      omega
theorem nameL_len {l : List UInt8} (h : nameL l = true) : 1 ≤ l.length ∧ l.length ≤ 128 := by
  unfold nameL at h
  simp only [Bool.and_eq_true, decide_eq_true_eq] at h
  have h1 := T.nums_wid l.length l (Nat.le_refl _)
  refine ⟨?_, by omega⟩
  cases l with
  | nil => exact absurd h.1.1 (by decide)
  | cons x r => simp
end Go.Proofs.YtmfhipjceeijmaaGreatDoor
