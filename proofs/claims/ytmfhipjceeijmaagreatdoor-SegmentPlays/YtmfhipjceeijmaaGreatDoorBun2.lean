/-
  Own texts, joined: NumSpec FrameSpec CodecSpec
-/
import Derived.Lib.Hide
import Derived.Test.YtmfhipjceeijmaaGreatDoorBun1

/-
  Numbers and texts as rows of bytes, the document's chapter 2, over lists: what is put, what is taken, and what follows. No program in this text.
-/
namespace Go.Proofs.YtmfhipjceeijmaaGreatDoor.N

def bt (l : List UInt8) (i : Nat) : Nat := (l.getD i 0).toNat
theorem bt_lt (l : List UInt8) (i : Nat) : bt l i < 256 := (l.getD i 0).toNat_lt
theorem bt_drop (l : List UInt8) (i k : Nat) : bt (l.drop i) k = bt l (i + k) := by
  simp [bt, List.getD_eq_getElem?_getD]
theorem drop_cons {l : List UInt8} {k : Nat} (h : k < l.length) : ∃ c, l.drop k = c :: l.drop (k + 1) ∧ c.toNat = bt l k :=
  ⟨l[k], List.drop_eq_getElem_cons h, by simp [bt, List.getD_eq_getElem?_getD, h]⟩

theorem u8_nat {n : Nat} (h : n < 256) : (n.toUInt8).toNat = n := by
  rw [Nat.toUInt8, UInt8.toNat_ofNat']; omega
theorem u8_mk {c : UInt8} {n : Nat} (h : c.toNat = n) : c = n.toUInt8 := by
  have := c.toNat_lt
  exact UInt8.toNat_inj.1 (by rw [u8_nat (by omega)]; exact h)

/-- The bytes of a number. -/
def putF : Nat → Nat → List UInt8
  | 0, n => [n.toUInt8]
  | f + 1, n => if n < 128 then [n.toUInt8] else (n % 128 + 128).toUInt8 :: putF f (n / 128)
theorem putF_eq : ∀ (f g n : Nat), n ≤ f → n ≤ g → putF f n = putF g n
  | 0, 0, n, _, _ => rfl
  | 0, g + 1, n, hf, _ => by
    have : n = 0 := by omega
    subst this; simp [putF]
  | f + 1, 0, n, _, hg => by
    have : n = 0 := by omega
    subst this; simp [putF]
  | f + 1, g + 1, n, hf, hg => by
    simp only [putF]
    split
    · rfl
    · rw [putF_eq f g (n / 128) (by omega) (by omega)]
def putL (n : Nat) : List UInt8 := putF n n
theorem putL_lo {n : Nat} (h : n < 128) : putL n = [n.toUInt8] := by
  unfold putL
  cases n with
  | zero => rfl
  | succ k => rw [putF, if_pos h]
theorem putL_hi {n : Nat} (h : ¬ n < 128) : putL n = (n % 128 + 128).toUInt8 :: putL (n / 128) := by
  unfold putL
  cases n with
  | zero => omega
  | succ k => rw [putF, if_neg h, putF_eq k ((k + 1) / 128) ((k + 1) / 128) (by omega) (Nat.le_refl _)]
theorem putL_ne (n : Nat) : putL n ≠ [] := by
  by_cases h : n < 128
  · rw [putL_lo h]; simp
  · rw [putL_hi h]; simp
theorem putL_pos (n : Nat) : 1 ≤ (putL n).length := by
  have := putL_ne n
  cases h : putL n with
  | nil => exact absurd h this
  | cons a r => simp
theorem putL_len : ∀ (g m : Nat), m < 128 ^ (g + 1) → (putL m).length ≤ g + 1
  | 0, m, h => by rw [putL_lo (by omega)]; simp
  | g + 1, m, h => by
    by_cases c : m < 128
    · rw [putL_lo c]; simp
    · rw [putL_hi c]
      have := putL_len g (m / 128) (by rw [Nat.pow_succ] at h; omega)
      simp; omega
theorem putL_len6 {m : Nat} (h : m ≤ 1099511627776) : (putL m).length ≤ 6 := putL_len 5 m (by omega)
theorem putL_mono : ∀ (n a b : Nat), b ≤ n → a ≤ b → (putL a).length ≤ (putL b).length
  | 0, a, b, hn, h => by
    have h1 : a = 0 := by omega
    have h2 : b = 0 := by omega
    subst h1; subst h2; exact Nat.le_refl _
  | n + 1, a, b, hn, h => by
    by_cases ca : a < 128
    · rw [putL_lo ca]; have := putL_pos b; simpa using this
    · rw [putL_hi ca, putL_hi (n := b) (by omega)]
      have := putL_mono n (a / 128) (b / 128) (by omega) (by omega)
      simp; omega

/-- What is taken: a number and what is behind it, or what is wrong. -/
abbrev Tk : Type := Sum (Nat × List UInt8) Nat
abbrev Tk.ok (n : Nat) (rest : List UInt8) : Tk := Sum.inl (n, rest)
abbrev Tk.bad (e : Nat) : Tk := Sum.inr e

def takeG : Nat → Nat → List UInt8 → Tk
  | _, _, [] => .bad 3
  | 0, _, _ :: _ => .bad 2
  | g + 1, n, c :: r =>
    if 128 ≤ c.toNat then takeG g (n + c.toNat % 128 * 128 ^ (5 - g)) r
    else if c.toNat = 0 ∧ g < 5 then .bad 2
    else if 1099511627776 < n + c.toNat * 128 ^ (5 - g) then .bad 4
    else .ok (n + c.toNat * 128 ^ (5 - g)) r
def takeL (l : List UInt8) : Tk := takeG 6 0 l

theorem takeG_nil (g n : Nat) : takeG g n [] = .bad 3 := by cases g <;> rfl
theorem takeG_out (n : Nat) (c : UInt8) (r : List UInt8) : takeG 0 n (c :: r) = .bad 2 := rfl
theorem takeG_more {g n : Nat} {c : UInt8} {r : List UInt8} (h : 128 ≤ c.toNat) : takeG (g + 1) n (c :: r) = takeG g (n + c.toNat % 128 * 128 ^ (5 - g)) r := by
  rw [takeG, if_pos h]
theorem takeG_zero {g n : Nat} {c : UInt8} {r : List UInt8} (h : c.toNat = 0) (hg : g < 5) : takeG (g + 1) n (c :: r) = .bad 2 := by
  rw [takeG, if_neg (by omega), if_pos ⟨h, hg⟩]
theorem takeG_long {g n : Nat} {c : UInt8} {r : List UInt8} (h : c.toNat < 128) (hz : ¬ (c.toNat = 0 ∧ g < 5)) (hl : 1099511627776 < n + c.toNat * 128 ^ (5 - g)) : takeG (g + 1) n (c :: r) = .bad 4 := by
  rw [takeG, if_neg (by omega), if_neg hz, if_pos hl]
theorem takeG_ok {g n : Nat} {c : UInt8} {r : List UInt8} (h : c.toNat < 128) (hz : ¬ (c.toNat = 0 ∧ g < 5)) (hl : ¬ 1099511627776 < n + c.toNat * 128 ^ (5 - g)) : takeG (g + 1) n (c :: r) = .ok (n + c.toNat * 128 ^ (5 - g)) r := by
  rw [takeG, if_neg (by omega), if_neg hz, if_neg hl]

theorem split128 (m u : Nat) : m % 128 * u + m / 128 * (u * 128) = m * u := by
  have h := Nat.mod_add_div m 128
  calc m % 128 * u + m / 128 * (u * 128) = (m % 128 + 128 * (m / 128)) * u := by
        rw [Nat.add_mul, Nat.mul_comm 128 (m / 128), Nat.mul_assoc, Nat.mul_comm 128 u]
    _ = m * u := by rw [h]
theorem pow_step {g : Nat} (hg : g < 5) : 128 ^ (5 - g) = 128 ^ (5 - (g + 1)) * 128 := by
  rw [show 5 - g = (5 - (g + 1)) + 1 by omega, Nat.pow_succ]

theorem takeG_put : ∀ (g m n : Nat) (r : List UInt8), g < 6 → m < 128 ^ (g + 1) → (g < 5 → 1 ≤ m) → n + m * 128 ^ (5 - g) ≤ 1099511627776 →
    takeG (g + 1) n (putL m ++ r) = .ok (n + m * 128 ^ (5 - g)) r
  | g, m, n, r, hg, hm, hp, hl => by
    by_cases c : m < 128
    · have hc := u8_nat (n := m) (by omega)
      rw [putL_lo c, List.singleton_append, takeG_ok (by omega) (by rw [hc]; omega) (by rw [hc]; omega), hc]
    · have hc := u8_nat (n := m % 128 + 128) (by omega)
      rw [putL_hi c, List.cons_append, takeG_more (by omega), hc]
      match g, hg, hm, hl with
      | 0, _, hm, _ => exact absurd hm (by omega)
      | g + 1, hg, hm, hl =>
        have e := split128 m (128 ^ (5 - (g + 1)))
        have e2 : (m % 128 + 128) % 128 = m % 128 := by omega
        have e3 : n + m % 128 * 128 ^ (5 - (g + 1)) + m / 128 * 128 ^ (5 - g) = n + m * 128 ^ (5 - (g + 1)) := by
          rw [pow_step (g := g) (by omega)]; omega
        rw [e2, takeG_put g (m / 128) _ r (by omega) (by rw [Nat.pow_succ] at hm; omega) (by omega) (by rw [e3]; exact hl), e3]
theorem take_put {n : Nat} (h : n ≤ 1099511627776) (r : List UInt8) : takeL (putL n ++ r) = .ok n r := by
  have := takeG_put 5 n 0 r (by omega) (by omega) (by omega) (by omega)
  simpa [takeL] using this

theorem takeG_inv : ∀ (g n : Nat) (l : List UInt8) (v : Nat) (r : List UInt8), g < 6 → takeG (g + 1) n l = .ok v r →
    ∃ m, v = n + m * 128 ^ (5 - g) ∧ l = putL m ++ r ∧ (g < 5 → 1 ≤ m) ∧ m < 128 ^ (g + 1) ∧ v ≤ 1099511627776
  | g, n, [], v, r, hg, h => by rw [takeG_nil] at h; cases h
  | g, n, c :: t, v, r, hg, h => by
    have hc := c.toNat_lt
    have hp : 128 ≤ 128 ^ (g + 1) := by rw [Nat.pow_succ]; have := Nat.pow_pos (n := g) (show 0 < 128 by omega); omega
    by_cases h1 : 128 ≤ c.toNat
    · rw [takeG_more h1] at h
      match g, hg, h, hp with
      | 0, _, h, _ =>
        cases t with
        | nil => rw [takeG_nil] at h; cases h
        | cons a t => rw [takeG_out] at h; cases h
      | g + 1, hg, h, _ =>
        obtain ⟨m, hv, hl, hm, hb, hle⟩ := takeG_inv g _ t v r (by omega) h
        have hm1 := hm (by omega)
        refine ⟨c.toNat % 128 + m * 128, ?_, ?_, fun _ => by omega, by rw [Nat.pow_succ 128 (g + 1)]; omega, hle⟩
        · rw [hv, pow_step (g := g) (by omega), Nat.add_mul, Nat.mul_assoc m 128, Nat.mul_comm 128]; omega
        · rw [putL_hi (by omega), hl, List.cons_append]
          have e1 : (c.toNat % 128 + m * 128) / 128 = m := by omega
          have e2 : (c.toNat % 128 + m * 128) % 128 + 128 = c.toNat := by omega
          rw [e1, e2, ← u8_mk rfl]
    · by_cases hz : c.toNat = 0 ∧ g < 5
      · rw [takeG_zero hz.1 hz.2] at h; cases h
      · by_cases hl : 1099511627776 < n + c.toNat * 128 ^ (5 - g)
        · rw [takeG_long (by omega) hz hl] at h; cases h
        · rw [takeG_ok (by omega) hz hl] at h
          cases h
          refine ⟨c.toNat, rfl, ?_, fun _ => by omega, by omega, by omega⟩
          rw [putL_lo (by omega), ← u8_mk rfl]; rfl
theorem take_inv {l r : List UInt8} {v : Nat} (h : takeL l = .ok v r) : l = putL v ++ r ∧ v ≤ 1099511627776 := by
  obtain ⟨m, hv, hl, _, _, hle⟩ := takeG_inv 5 0 l v r (by omega) h
  have : v = m := by simpa using hv
  subst this
  exact ⟨hl, hle⟩
theorem takeG_short : ∀ (g m n : Nat), m < 128 ^ (g + 1) → takeG (g + 1) n (putL m).dropLast = .bad 3
  | g, m, n, hm => by
    by_cases c : m < 128
    · rw [putL_lo c]; exact takeG_nil _ _
    · match g, hm with
      | 0, hm => exact absurd hm (by omega)
      | g + 1, hm =>
        have hc := u8_nat (n := m % 128 + 128) (by omega)
        rw [putL_hi c, List.dropLast_cons_of_ne_nil (putL_ne _), takeG_more (by omega)]
        exact takeG_short g (m / 128) _ (by rw [Nat.pow_succ] at hm; omega)
theorem takeL_cases (l : List UInt8) : (∃ e, takeL l = .bad e) ∨ ∃ n r, takeL l = .ok n r := by
  cases h : takeL l with
  | inl p => exact .inr ⟨p.1, p.2, rfl⟩
  | inr e => exact .inl ⟨e, rfl⟩
theorem take_short {n : Nat} (h : n ≤ 1099511627776) : takeL (putL n).dropLast = .bad 3 := takeG_short 5 n 0 (by omega)

theorem put_prefix {a b : Nat} (ha : a ≤ 1099511627776) (hb : b ≤ 1099511627776) {r : List UInt8} (h : putL b = putL a ++ r) : a = b ∧ r = [] := by
  have h1 := take_put ha r
  have h2 := take_put hb []
  rw [List.append_nil, h, h1] at h2
  have h3 := Sum.inl.inj h2
  exact ⟨congrArg Prod.fst h3, congrArg Prod.snd h3⟩
theorem put_inj {a b : Nat} (ha : a ≤ 1099511627776) (hb : b ≤ 1099511627776) (h : putL a = putL b) : a = b :=
  (put_prefix (r := []) ha hb (by rw [List.append_nil]; exact h.symm)).1

/-- A number made 0 to 2^40; one made -2^39 to 2^39. -/
def held (n : Int) : Nat := (max 0 (min n 1099511627776)).toNat
theorem held_le (n : Int) : held n ≤ 1099511627776 := by unfold held; omega
def heldI (n : Int) : Int := max (-549755813888) (min n 549755813888)
theorem heldI_bd (n : Int) : -549755813888 ≤ heldI n ∧ heldI n ≤ 549755813888 := by unfold heldI; omega
def zig (n : Int) : Int := if n < 0 then -2 * n - 1 else 2 * n
def zigN (n : Int) : Nat := (zig (heldI n)).toNat
theorem zig_bd {n : Int} (h : -549755813888 ≤ n ∧ n ≤ 549755813888) : 0 ≤ zig n ∧ zig n ≤ 1099511627776 := by unfold zig; split <;> omega
theorem held_zig (n : Int) : held (zig (heldI n)) = zigN n := by
  have := zig_bd (heldI_bd n)
  unfold held zigN; omega
theorem zigN_le (n : Int) : zigN n ≤ 1099511627776 := by have := zig_bd (heldI_bd n); unfold zigN; omega
def zag (n : Nat) : Int := if n % 2 = 1 then -((n : Int) + 1) / 2 else n / 2
theorem zag_zig (n : Int) : zag (zigN n) = heldI n := by
  have := zig_bd (heldI_bd n)
  unfold zag zigN zig at *
  repeat' split
  all_goals (repeat' split at *)
  all_goals omega
theorem zigN_inj (a b : Int) : zigN a = zigN b ↔ heldI a = heldI b := by
  constructor
  · intro h; rw [← zag_zig a, ← zag_zig b, h]
  · intro h; unfold zigN; rw [h]

/-- The bytes of a text, and what is taken as one. -/
def putT (l : List UInt8) : List UInt8 := putL l.length ++ l
theorem putT_len {l : List UInt8} (h : l.length ≤ 1000000) : (putT l).length ≤ l.length + 6 := by
  have := putL_len6 (m := l.length) (by omega)
  simp [putT]; omega
abbrev Tt : Type := Sum (List UInt8 × List UInt8) Nat
abbrev Tt.ok (t rest : List UInt8) : Tt := Sum.inl (t, rest)
abbrev Tt.bad (e : Nat) : Tt := Sum.inr e
def takeT (l : List UInt8) (most : Int) : Tt :=
  match takeL l with
  | Sum.inr e => .bad e
  | Sum.inl (n, r) => if most < n then .bad 4 else if r.length < n then .bad 3 else .ok (r.take n) (r.drop n)
theorem takeT_bad {l : List UInt8} {e : Nat} (most : Int) (h : takeL l = .bad e) : takeT l most = .bad e := by simp only [takeT, h, Tk.bad]
theorem takeT_long {l r : List UInt8} {n : Nat} {most : Int} (h : takeL l = .ok n r) (hm : most < n) : takeT l most = .bad 4 := by simp only [takeT, h, Tk.ok, if_pos hm]
theorem takeT_short {l r : List UInt8} {n : Nat} {most : Int} (h : takeL l = .ok n r) (hm : ¬ most < n) (hl : r.length < n) : takeT l most = .bad 3 := by simp only [takeT, h, Tk.ok, if_neg hm, if_pos hl]
theorem takeT_ok {l r : List UInt8} {n : Nat} {most : Int} (h : takeL l = .ok n r) (hm : ¬ most < n) (hl : ¬ r.length < n) : takeT l most = .ok (r.take n) (r.drop n) := by simp only [takeT, h, Tk.ok, if_neg hm, if_neg hl]
theorem takeT_put {l r : List UInt8} {most : Int} (h : l.length ≤ 1000000) (hm : ¬ most < l.length) : takeT (putT l ++ r) most = .ok l r := by
  have e : takeL (putT l ++ r) = .ok l.length (l ++ r) := by rw [putT, List.append_assoc]; exact take_put (by omega) _
  rw [takeT_ok e hm (by simp)]; simp
theorem takeT_put_long {l r : List UInt8} {most : Int} (h : l.length ≤ 1000000) (hm : most < l.length) : takeT (putT l ++ r) most = .bad 4 := by
  have e : takeL (putT l ++ r) = .ok l.length (l ++ r) := by rw [putT, List.append_assoc]; exact take_put (by omega) _
  exact takeT_long e hm

/-- Four bytes, the highest one first. -/
def fixL (n : Nat) : List UInt8 := [(n / 16777216 % 256).toUInt8, (n / 65536 % 256).toUInt8, (n / 256 % 256).toUInt8, (n % 256).toUInt8]
def fixV (l : List UInt8) : Nat := ((bt l 0 * 256 + bt l 1) * 256 + bt l 2) * 256 + bt l 3
theorem fixV_lt (l : List UInt8) : fixV l < 4294967296 := by
  have := bt_lt l 0; have := bt_lt l 1; have := bt_lt l 2; have := bt_lt l 3
  unfold fixV; omega
theorem fix_back {n : Nat} (h : n < 4294967296) (r : List UInt8) : fixV (fixL n ++ r) = n ∧ (fixL n ++ r).drop 4 = r := by
  refine ⟨?_, rfl⟩
  have e0 : bt (fixL n ++ r) 0 = n / 16777216 % 256 := u8_nat (by omega)
  have e1 : bt (fixL n ++ r) 1 = n / 65536 % 256 := u8_nat (by omega)
  have e2 : bt (fixL n ++ r) 2 = n / 256 % 256 := u8_nat (by omega)
  have e3 : bt (fixL n ++ r) 3 = n % 256 := u8_nat (by omega)
  unfold fixV
  rw [e0, e1, e2, e3]; omega
end Go.Proofs.YtmfhipjceeijmaaGreatDoor.N

/-
  Frames of the document's chapter 4, over lists of bytes: what is put, what is taken, rows, scans, and what follows. No program in this text.
-/
namespace Go.Proofs.YtmfhipjceeijmaaGreatDoor.F

theorem fixL_len (n : Nat) : (N.fixL n).length = 4 := rfl
theorem fix_of {s : List UInt8} (h : 4 ≤ s.length) : N.fixL (N.fixV s) = s.take 4 := by
  match s, h with
  | a :: b :: c :: d :: r, _ =>
    have ha := a.toNat_lt; have hb := b.toNat_lt; have hc := c.toNat_lt; have hd := d.toNat_lt
    have e0 : N.bt (a :: b :: c :: d :: r) 0 = a.toNat := rfl
    have e1 : N.bt (a :: b :: c :: d :: r) 1 = b.toNat := rfl
    have e2 : N.bt (a :: b :: c :: d :: r) 2 = c.toNat := rfl
    have e3 : N.bt (a :: b :: c :: d :: r) 3 = d.toNat := rfl
    unfold N.fixL N.fixV
    rw [e0, e1, e2, e3]
    rw [← N.u8_mk (c := a) (by omega), ← N.u8_mk (c := b) (by omega), ← N.u8_mk (c := c) (by omega), ← N.u8_mk (c := d) (by omega)]
    rfl
theorem fixV_take {s : List UInt8} (h : 4 ≤ s.length) : N.fixV (s.take 4) = N.fixV s := by
  match s, h with
  | a :: b :: c :: d :: r, _ => rfl

/-- A frame. -/
def sumOf (p : List UInt8) : Nat := C.upd 0 (N.fixL p.length ++ p)
theorem sumOf_lt (p : List UInt8) : sumOf p < 4294967296 := C.upd_lt (by omega) _
def frame (p : List UInt8) : List UInt8 := N.fixL p.length ++ (N.fixL (sumOf p) ++ p)
theorem frame_len (p : List UInt8) : (frame p).length = p.length + 8 := by simp [frame, fixL_len]; omega
def good (p : List UInt8) : Prop := 0 < p.length ∧ p.length ≤ 8000
instance (p : List UInt8) : Decidable (good p) := inferInstanceAs (Decidable (_ ∧ _))
/-- What is wrong with a payload: 0, if nothing is. -/
def code (p : List UInt8) : Nat := if p.length = 0 then 2 else if 8000 < p.length then 4 else 0
theorem code_good {p : List UInt8} (h : good p) : code p = 0 := by
  unfold good at h; unfold code; rw [if_neg (by omega), if_neg (by omega)]
theorem code_zero {p : List UInt8} (h : code p = 0) : good p := by
  unfold code at h; unfold good
  split at h
  · omega
  · split at h
    · omega
    · omega
theorem code_none {p : List UInt8} (h : p.length = 0) : code p = 2 := by unfold code; rw [if_pos h]
theorem code_long {p : List UInt8} (h : 8000 < p.length) : code p = 4 := by unfold code; rw [if_neg (by omega), if_pos h]

abbrev Tk : Type := Sum (List UInt8 × List UInt8) Nat
abbrev Tk.ok (p r : List UInt8) : Tk := Sum.inl (p, r)
abbrev Tk.bad (e : Nat) : Tk := Sum.inr e
def take (s : List UInt8) : Tk :=
  if s.length < 8 then .bad 3
  else if N.fixV s = 0 then .bad 2
  else if 8000 < N.fixV s then .bad 4
  else if s.length - 8 < N.fixV s then .bad 3
  else if C.upd 0 (s.take 4 ++ (s.drop 8).take (N.fixV s)) = N.fixV (s.drop 4) then .ok ((s.drop 8).take (N.fixV s)) ((s.drop 8).drop (N.fixV s))
  else .bad 5
theorem take_few {s : List UInt8} (h : s.length < 8) : take s = .bad 3 := by unfold take; rw [if_pos h]
theorem take_zero {s : List UInt8} (h : ¬ s.length < 8) (h0 : N.fixV s = 0) : take s = .bad 2 := by unfold take; rw [if_neg h, if_pos h0]
theorem take_long {s : List UInt8} (h : ¬ s.length < 8) (h1 : 8000 < N.fixV s) : take s = .bad 4 := by unfold take; rw [if_neg h, if_neg (by omega), if_pos h1]
theorem take_short {s : List UInt8} (h : ¬ s.length < 8) (h0 : N.fixV s ≠ 0) (h1 : ¬ 8000 < N.fixV s) (h2 : s.length - 8 < N.fixV s) : take s = .bad 3 := by
  unfold take; rw [if_neg h, if_neg h0, if_neg h1, if_pos h2]
theorem take_ok {s : List UInt8} (h : ¬ s.length < 8) (h0 : N.fixV s ≠ 0) (h1 : ¬ 8000 < N.fixV s) (h2 : ¬ s.length - 8 < N.fixV s) (h3 : C.upd 0 (s.take 4 ++ (s.drop 8).take (N.fixV s)) = N.fixV (s.drop 4)) :
    take s = .ok ((s.drop 8).take (N.fixV s)) ((s.drop 8).drop (N.fixV s)) := by
  unfold take; rw [if_neg h, if_neg h0, if_neg h1, if_neg h2, if_pos h3]
theorem take_sum {s : List UInt8} (h : ¬ s.length < 8) (h0 : N.fixV s ≠ 0) (h1 : ¬ 8000 < N.fixV s) (h2 : ¬ s.length - 8 < N.fixV s) (h3 : ¬ C.upd 0 (s.take 4 ++ (s.drop 8).take (N.fixV s)) = N.fixV (s.drop 4)) :
    take s = .bad 5 := by
  unfold take; rw [if_neg h, if_neg h0, if_neg h1, if_neg h2, if_neg h3]
theorem take_cases (s : List UInt8) : (∃ e, take s = .bad e ∧ 0 < e) ∨ (∃ p r, take s = .ok p r) := by
  unfold take
  repeat' split
  all_goals first
    | exact .inl ⟨_, rfl, by omega⟩
    | exact .inr ⟨_, _, rfl⟩

/-- The bytes of a frame's head. -/
theorem frame_fix {p : List UInt8} (h : p.length < 4294967296) (r : List UInt8) : N.fixV (frame p ++ r) = p.length := by
  unfold frame; rw [List.append_assoc]; exact (N.fix_back h _).1
theorem frame_four (p r : List UInt8) : (frame p ++ r).drop 4 = N.fixL (sumOf p) ++ (p ++ r) := by
  unfold frame; rw [List.append_assoc, List.append_assoc]; rfl
theorem frame_eight (p r : List UInt8) : (frame p ++ r).drop 8 = p ++ r := by
  unfold frame; rw [List.append_assoc, List.append_assoc]; rfl
theorem frame_head (p r : List UInt8) : (frame p ++ r).take 4 = N.fixL p.length := by
  unfold frame; rw [List.append_assoc]; rfl
theorem take_frame {p : List UInt8} (h : good p) (r : List UInt8) : take (frame p ++ r) = .ok p r := by
  have hl : (frame p ++ r).length = p.length + 8 + r.length := by rw [List.length_append, frame_len]
  have hf := frame_fix (p := p) (by have := h.2; omega) r
  have h1 := h.1
  have h2 := h.2
  have e := take_ok (s := frame p ++ r) (by omega) (by omega) (by omega) (by omega) (by
    rw [hf, frame_head, frame_eight, frame_four, List.take_left, (N.fix_back (sumOf_lt p) _).1]
    rfl)
  rw [e, hf, frame_eight, List.take_left, List.drop_left]
theorem take_inv {s p r : List UInt8} (h : take s = .ok p r) : s = frame p ++ r ∧ good p := by
  by_cases h8 : s.length < 8
  · rw [take_few h8] at h; cases h
  by_cases h0 : N.fixV s = 0
  · rw [take_zero h8 h0] at h; cases h
  by_cases h1 : 8000 < N.fixV s
  · rw [take_long h8 h1] at h; cases h
  by_cases h2 : s.length - 8 < N.fixV s
  · rw [take_short h8 h0 h1 h2] at h; cases h
  by_cases h3 : C.upd 0 (s.take 4 ++ (s.drop 8).take (N.fixV s)) = N.fixV (s.drop 4)
  · rw [take_ok h8 h0 h1 h2 h3] at h
    have hp : (s.drop 8).take (N.fixV s) = p := by injection h with h; injection h
    have hr : (s.drop 8).drop (N.fixV s) = r := by injection h with h; injection h
    have hl : p.length = N.fixV s := by rw [← hp, List.length_take, List.length_drop]; omega
    refine ⟨?_, by unfold good; omega⟩
    have hs : sumOf p = N.fixV (s.drop 4) := by
      unfold sumOf; rw [hl, fix_of (by omega), ← h3, hp]
    unfold frame
    rw [hs, hl, fix_of (by omega), fix_of (by rw [List.length_drop]; omega), ← hp, ← hr, List.append_assoc, List.append_assoc, List.take_append_drop]
    have e : s.drop 8 = (s.drop 4).drop 4 := by rw [List.drop_drop]
    rw [e, List.take_append_drop, List.take_append_drop]
  · rw [take_sum h8 h0 h1 h2 h3] at h; cases h
/-- What a cut frame, or what is shorter than a head, is. -/
theorem take_cut {p : List UInt8} (h : good p) (r : List UInt8) {k : Nat} (hk : k < p.length + 8) : take ((frame p ++ r).take k) = .bad 3 := by
  have hl : (frame p ++ r).length = p.length + 8 + r.length := by rw [List.length_append, frame_len]
  have hkl : ((frame p ++ r).take k).length = k := by rw [List.length_take]; omega
  by_cases h8 : k < 8
  · exact take_few (by omega)
  · have e : N.fixV ((frame p ++ r).take k) = p.length := by
      rw [← fixV_take (by omega), List.take_take, show min 4 k = 4 by omega, fixV_take (by omega)]
      exact frame_fix (by have := h.2; omega) r
    have h1 := h.1
    have h2 := h.2
    exact take_short (by omega) (by omega) (by omega) (by omega)

/-- The payloads of the frames that bytes begin with, and how many bytes they have. -/
def scanF : Nat → List UInt8 → List (List UInt8) × Nat
  | 0, _ => ([], 0)
  | f + 1, s =>
    match take s with
    | Sum.inl (p, r) => (p :: (scanF f r).1, p.length + 8 + (scanF f r).2)
    | Sum.inr _ => ([], 0)
def scan (s : List UInt8) : List (List UInt8) × Nat := scanF s.length s
theorem scanF_bad {s : List UInt8} {e : Nat} (h : take s = .bad e) : ∀ f, scanF f s = ([], 0)
  | 0 => rfl
  | f + 1 => by simp only [scanF, h, Tk.bad]
theorem scanF_ok {s p r : List UInt8} (h : take s = .ok p r) (f : Nat) : scanF (f + 1) s = (p :: (scanF f r).1, p.length + 8 + (scanF f r).2) := by simp only [scanF, h, Tk.ok]
theorem scanF_eq : ∀ (f g : Nat) (s : List UInt8), s.length ≤ f → s.length ≤ g → scanF f s = scanF g s
  | 0, g, s, hf, _ => by
    have : take s = .bad 3 := take_few (by omega)
    rw [scanF_bad this g]; rfl
  | f + 1, 0, s, _, hg => by
    have : take s = .bad 3 := take_few (by omega)
    rw [scanF_bad this]; rfl
  | f + 1, g + 1, s, hf, hg => by
    rcases take_cases s with ⟨e, h, _⟩ | ⟨p, r, h⟩
    · rw [scanF_bad h, scanF_bad h]
    · have hi := take_inv h
      have hl : s.length = p.length + 8 + r.length := by rw [hi.1, List.length_append, frame_len]
      rw [scanF_ok h, scanF_ok h, scanF_eq f g r (by omega) (by omega)]
theorem scan_bad {s : List UInt8} {e : Nat} (h : take s = .bad e) : scan s = ([], 0) := scanF_bad h _
theorem scan_ok {s p r : List UInt8} (h : take s = .ok p r) : scan s = (p :: (scan r).1, p.length + 8 + (scan r).2) := by
  have hi := take_inv h
  have hl : s.length = p.length + 8 + r.length := by rw [hi.1, List.length_append, frame_len]
  unfold scan
  rw [show s.length = (p.length + 7 + r.length) + 1 by omega, scanF_ok h, scanF_eq (p.length + 7 + r.length) r.length r (by omega) (by omega)]
theorem scan_frame {p : List UInt8} (h : good p) (r : List UInt8) : scan (frame p ++ r) = (p :: (scan r).1, p.length + 8 + (scan r).2) := scan_ok (take_frame h r)

/-- Rows. -/
def frames (l : List (List UInt8)) : List UInt8 := l.flatMap frame
theorem frames_nil : frames [] = [] := rfl
theorem frames_cons (p : List UInt8) (l : List (List UInt8)) : frames (p :: l) = frame p ++ frames l := by unfold frames; rw [List.flatMap_cons]
theorem frames_append (a b : List (List UInt8)) : frames (a ++ b) = frames a ++ frames b := by unfold frames; rw [List.flatMap_append]
theorem frames_step {l : List (List UInt8)} {k : Nat} (h : k < l.length) : frames (l.take (k + 1)) = frames (l.take k) ++ frame l[k] := by
  rw [List.take_succ_eq_append_getElem h, frames_append, frames_cons, frames_nil, List.append_nil]
/-- The first error of a row: 0, if there is none. -/
def codes (l : List (List UInt8)) : Nat :=
  match l with
  | [] => 0
  | p :: r => if code p = 0 then codes r else code p
theorem codes_zero : ∀ {l : List (List UInt8)}, codes l = 0 → ∀ p ∈ l, good p
  | [], _, p, hp => by simp at hp
  | q :: r, h, p, hp => by
    unfold codes at h
    by_cases hq : code q = 0
    · rw [if_pos hq] at h
      rcases List.mem_cons.1 hp with rfl | hp
      · exact code_zero hq
      · exact codes_zero h p hp
    · rw [if_neg hq] at h; exact absurd h hq
theorem codes_good : ∀ {l : List (List UInt8)}, (∀ p ∈ l, good p) → codes l = 0
  | [], _ => rfl
  | q :: r, h => by
    unfold codes
    rw [if_pos (code_good (h q (by simp)))]
    exact codes_good fun p hp => h p (by simp [hp])
/-- The first that is wrong stands behind those that are right. -/
theorem codes_at {l : List (List UInt8)} {k : Nat} (hk : k < l.length) (h : ∀ p ∈ l.take k, good p) (hb : code l[k] ≠ 0) : codes l = code l[k] := by
  induction l generalizing k with
  | nil => simp at hk
  | cons q r ih =>
    cases k with
    | zero =>
      simp only [List.getElem_cons_zero] at hb ⊢
      unfold codes; rw [if_neg hb]
    | succ k =>
      simp only [List.getElem_cons_succ] at hb ⊢
      unfold codes
      rw [if_pos (code_good (h q (by simp)))]
      exact ih (by simpa using hk) (fun p hp => h p (by simp [hp])) hb
theorem codes_pos {q : List UInt8} (h : code q = 0) (r : List (List UInt8)) : codes (q :: r) = codes r := by
  show (if code q = 0 then codes r else code q) = _
  rw [if_pos h]
theorem codes_neg {q : List UInt8} (h : ¬ code q = 0) (r : List (List UInt8)) : codes (q :: r) = code q := by
  show (if code q = 0 then codes r else code q) = _
  rw [if_neg h]
theorem codes_append (a b : List (List UInt8)) : codes (a ++ b) = if codes a = 0 then codes b else codes a := by
  induction a with
  | nil => rfl
  | cons q r ih =>
    rw [List.cons_append]
    by_cases hq : code q = 0
    · rw [codes_pos hq, codes_pos hq, ih]
    · rw [codes_neg hq, codes_neg hq, if_neg hq]

/-- Scan of a row, with bytes behind that are no frame. -/
theorem scan_row {more : List UInt8} {e : Nat} (hm : take more = .bad e) : ∀ {l : List (List UInt8)}, (∀ p ∈ l, good p) → scan (frames l ++ more) = (l, (frames l).length)
  | [], _ => by rw [frames_nil, List.nil_append, scan_bad hm]; rfl
  | q :: r, h => by
    rw [frames_cons, List.append_assoc, scan_frame (h q (by simp)), scan_row hm fun p hp => h p (by simp [hp]), List.length_append, frame_len]
theorem scan_row_all {l : List (List UInt8)} (h : ∀ p ∈ l, good p) : scan (frames l) = (l, (frames l).length) := by
  have := scan_row (more := []) (take_few (by simp)) h
  rwa [List.append_nil] at this
theorem frames_len : ∀ (l : List (List UInt8)), (frames l).length = (l.map fun p => p.length + 8).sum
  | [] => rfl
  | q :: r => by rw [frames_cons, List.length_append, frame_len, frames_len r, List.map_cons, List.sum_cons]

/-- Of a row that is cut: just the payloads whose frames are whole. -/
theorem scan_cut {l : List (List UInt8)} {cut k : Nat} (h : ∀ p ∈ l, good p) (hk : k ≤ l.length) (hle : (frames (l.take k)).length ≤ cut)
    (hnext : k = l.length ∨ ∃ hk2 : k < l.length, cut < (frames (l.take k)).length + (l[k].length + 8)) : scan ((frames l).take cut) = (l.take k, (frames (l.take k)).length) := by
  induction l generalizing k cut with
  | nil =>
    simp only [List.take_nil, frames_nil]
    exact scan_bad (take_few (by simp))
  | cons q r ih =>
    have hq := h q (by simp)
    cases k with
    | zero =>
      rcases hnext with h0 | ⟨_, hc⟩
      · simp at h0
      · simp only [List.take_zero, frames_nil, List.length_nil, Nat.zero_add, List.getElem_cons_zero] at hc ⊢
        rw [frames_cons]
        exact scan_bad (take_cut hq _ hc)
    | succ k =>
      simp only [List.take_succ_cons, frames_cons, List.length_append, frame_len] at hle hnext ⊢
      have e : (frame q ++ frames r).take cut = frame q ++ (frames r).take (cut - (q.length + 8)) := by
        rw [List.take_append, frame_len, List.take_of_length_le (by rw [frame_len]; omega)]
      rw [e, scan_frame hq, ih (cut := cut - (q.length + 8)) (k := k) (fun p hp => h p (by simp [hp])) (by simpa using hk) (by omega) (by
        rcases hnext with h0 | ⟨h1, h2⟩
        · exact .inl (by simpa using h0)
        · refine .inr ⟨by simpa using h1, ?_⟩
          simp only [List.getElem_cons_succ] at h2
          omega)]

/-- Turned bits behind the sum. -/
theorem val_append : ∀ (a b : List UInt8), C.val (a ++ b) = C.val a ^^^ 2 ^ (8 * a.length) * C.val b
  | [], b => by simp [C.val]
  | x :: a, b => by
    show x.toNat ^^^ 2 ^ 8 * C.val (a ++ b) = (x.toNat ^^^ 2 ^ 8 * C.val a) ^^^ 2 ^ (8 * (a.length + 1)) * C.val b
    rw [val_append a b, C.mul_xor, ← Nat.xor_assoc, ← Nat.mul_assoc, ← Nat.pow_add, show 8 + 8 * a.length = 8 * (a.length + 1) by omega]
theorem pow_split {n a b x y : Nat} (ha : a < 2 ^ n) (hb : b < 2 ^ n) (h : a ^^^ 2 ^ n * x = b ^^^ 2 ^ n * y) : a = b ∧ x = y := by
  have key : ∀ {c z : Nat}, c < 2 ^ n → (c ^^^ 2 ^ n * z) % 2 ^ n = c ∧ (c ^^^ 2 ^ n * z) / 2 ^ n = z := by
    intro c z hc
    constructor
    · rw [Nat.xor_mod_two_pow, Nat.mul_mod_right, Nat.xor_zero]; exact Nat.mod_eq_of_lt hc
    · rw [Nat.xor_div_two_pow, Nat.mul_div_cancel_left _ (Nat.two_pow_pos n), Nat.div_eq_of_lt hc, Nat.zero_xor]
  have h1 := key (z := x) ha
  have h2 := key (z := y) hb
  rw [h] at h1
  exact ⟨h1.1.symm.trans h2.1, h1.2.symm.trans h2.2⟩
theorem turn_parts {s t : List UInt8} {a m : Nat} (hl : t.length = s.length) (h8 : 8 ≤ s.length) (ha : 64 ≤ a) (hv : C.val t = C.val s ^^^ 2 ^ a * m) :
    t.take 8 = s.take 8 ∧ C.val (t.drop 8) = C.val (s.drop 8) ^^^ 2 ^ (a - 64) * m := by
  have e1 : C.val t = C.val (t.take 8) ^^^ 2 ^ 64 * C.val (t.drop 8) := by
    have := val_append (t.take 8) (t.drop 8)
    rwa [List.take_append_drop, List.length_take, show min 8 t.length = 8 by omega] at this
  have e2 : C.val s = C.val (s.take 8) ^^^ 2 ^ 64 * C.val (s.drop 8) := by
    have := val_append (s.take 8) (s.drop 8)
    rwa [List.take_append_drop, List.length_take, show min 8 s.length = 8 by omega] at this
  have l1 : (t.take 8).length = 8 := by rw [List.length_take]; omega
  have l2 : (s.take 8).length = 8 := by rw [List.length_take]; omega
  have b1 := C.val_lt (t.take 8)
  have b2 := C.val_lt (s.take 8)
  rw [l1] at b1
  rw [l2] at b2
  rw [e1, e2, show a = 64 + (a - 64) by omega, Nat.pow_add, Nat.mul_assoc, Nat.xor_assoc, ← C.mul_xor] at hv
  have hp := pow_split (n := 64) b1 b2 hv
  refine ⟨C.val_inj (by omega) hp.1, ?_⟩
  rw [hp.2]
theorem turned {p t : List UInt8} {a m : Nat} (hp : good p) (hl : t.length = (frame p).length) (hm : m < 4294967296) (ha : 64 ≤ a) (ha2 : a ≤ 8 * (frame p).length) (hv : C.val t = C.val (frame p) ^^^ 2 ^ a * m) (hne : t ≠ frame p) :
    take t = .bad 5 := by
  have hfl := frame_len p
  have h1 := hp.1
  have h2 := hp.2
  obtain ⟨hh, hd⟩ := turn_parts hl (by omega) ha hv
  have d8 : (frame p).drop 8 = p := by have := frame_eight p []; rwa [List.append_nil, List.append_nil] at this
  have h4 : t.take 4 = N.fixL p.length := by
    have e : t.take 4 = (t.take 8).take 4 := by rw [List.take_take]; rfl
    rw [e, hh, List.take_take]
    have := frame_head p []
    rwa [List.append_nil] at this
  have hf : N.fixV t = p.length := by
    rw [← fixV_take (by omega), h4]
    have := (N.fix_back (n := p.length) (by omega) []).1
    rwa [List.append_nil] at this
  have hs4 : N.fixV (t.drop 4) = sumOf p := by
    have e : (t.drop 4).take 4 = (t.take 8).drop 4 := by rw [List.drop_take]
    rw [← fixV_take (by rw [List.length_drop]; omega), e, hh, List.drop_take, show 8 - 4 = 4 from rfl, fixV_take (by rw [List.length_drop]; omega)]
    have h5 := frame_four p []
    rw [List.append_nil, List.append_nil] at h5
    rw [h5]
    exact (N.fix_back (sumOf_lt p) _).1
  have ht8 : (t.drop 8).take (N.fixV t) = t.drop 8 := List.take_of_length_le (by rw [List.length_drop]; omega)
  refine take_sum (by omega) (by omega) (by omega) (by omega) ?_
  rw [ht8, h4, hs4]
  intro he
  have hv2 : C.val (N.fixL p.length ++ t.drop 8) = C.val (N.fixL p.length ++ p) ^^^ 2 ^ (a - 32) * m := by
    rw [val_append, val_append, fixL_len, hd, d8, C.mul_xor, ← Nat.xor_assoc, ← Nat.mul_assoc, ← Nat.pow_add, show 8 * 4 + (a - 64) = a - 32 by omega]
  have hfin := (C.finds (c := 0) (s := N.fixL p.length ++ p) (t := N.fixL p.length ++ t.drop 8) (by simp [fixL_len]; omega) hm (by rw [List.length_append, fixL_len]; omega) hv2).2 he.symm
  have h6 : t.drop 8 = p := List.append_cancel_left hfin
  apply hne
  rw [← List.take_append_drop 8 t, hh, h6]
  have := List.take_append_drop 8 (frame p)
  rwa [d8] at this
end Go.Proofs.YtmfhipjceeijmaaGreatDoor.F

/-
  Ways to put things as bytes and to take them off the front, over lists of bytes: numbers, texts, pairs, counted lists, what must be right besides; what was put is taken, what is taken was put, and what is cut is short. No program in this text.
-/
namespace Go.Proofs.YtmfhipjceeijmaaGreatDoor.K

abbrev Rd (α : Type) : Type := Sum (α × List UInt8) Nat
def bind {α β : Type} (x : Rd α) (f : α → List UInt8 → Rd β) : Rd β :=
  match x with
  | Sum.inl (a, r) => f a r
  | Sum.inr e => Sum.inr e
theorem bind_ok {α β : Type} {x : Rd α} {a : α} {r : List UInt8} (f : α → List UInt8 → Rd β) (h : x = Sum.inl (a, r)) : bind x f = f a r := by rw [h]; rfl
theorem bind_bad {α β : Type} {x : Rd α} {e : Nat} (f : α → List UInt8 → Rd β) (h : x = Sum.inr e) : bind x f = Sum.inr e := by rw [h]; rfl
theorem cases {α : Type} (x : Rd α) : (∃ e, x = Sum.inr e) ∨ ∃ a r, x = Sum.inl (a, r) := by
  cases x with
  | inl p => exact .inr ⟨p.1, p.2, rfl⟩
  | inr e => exact .inl ⟨e, rfl⟩
theorem bind_inv {α β : Type} {x : Rd α} {f : α → List UInt8 → Rd β} {b : β} {q : List UInt8} (h : bind x f = Sum.inl (b, q)) : ∃ a r, x = Sum.inl (a, r) ∧ f a r = Sum.inl (b, q) := by
  rcases cases x with ⟨e, hx⟩ | ⟨a, r, hx⟩
  · rw [bind_bad f hx] at h; cases h
  · rw [bind_ok f hx] at h; exact ⟨a, r, hx, h⟩

structure Codec {α : Type} (ok : α → Prop) (put : α → List UInt8) (take : List UInt8 → Rd α) : Prop where
  back : ∀ a r, ok a → take (put a ++ r) = Sum.inl (a, r)
  inv : ∀ l a r, take l = Sum.inl (a, r) → l = put a ++ r ∧ ok a
  cut : ∀ a k, ok a → k < (put a).length → take ((put a).take k) = Sum.inr 3

theorem Codec.inj {α : Type} {ok : α → Prop} {put : α → List UInt8} {take : List UInt8 → Rd α} (C : Codec ok put take) {a b : α} (ha : ok a) (hb : ok b) (h : put a = put b) : a = b := by
  have h1 := C.back a [] ha
  have h2 := C.back b [] hb
  rw [h, h2] at h1
  exact (congrArg Prod.fst (Sum.inl.inj h1)).symm
theorem Codec.last {α : Type} {ok : α → Prop} {put : α → List UInt8} {take : List UInt8 → Rd α} (C : Codec ok put take) {a : α} (ha : ok a) (h : 0 < (put a).length) : take ((put a).take ((put a).length - 1)) = Sum.inr 3 :=
  C.cut a _ ha (by omega)

/-- Numbers. -/
theorem takeG_cut : ∀ (g m n k : Nat), m < 128 ^ (g + 1) → k < (N.putL m).length → N.takeG (g + 1) n ((N.putL m).take k) = .bad 3
  | g, m, n, k, hm, hk => by
    by_cases c : m < 128
    · rw [N.putL_lo c] at hk ⊢
      obtain rfl : k = 0 := by simpa using hk
      exact N.takeG_nil _ _
    · match g, hm with
      | 0, hm => exact absurd hm (by omega)
      | g + 1, hm =>
        have hc := N.u8_nat (n := m % 128 + 128) (by omega)
        rw [N.putL_hi c] at hk ⊢
        cases k with
        | zero => exact N.takeG_nil _ _
        | succ k =>
          rw [List.take_succ_cons, N.takeG_more (by omega)]
          exact takeG_cut g (m / 128) _ k (by rw [Nat.pow_succ] at hm; omega) (by simpa using hk)
def numOk (n : Nat) : Prop := n ≤ 1099511627776
theorem nums : Codec numOk N.putL N.takeL where
  back a r h := N.take_put h r
  inv l a r h := N.take_inv h
  cut a k h hk := takeG_cut 5 a 0 k (by unfold numOk at h; omega) hk

/-- Another name for what is put. -/
theorem Codec.map {α β : Type} {ok : α → Prop} {put : α → List UInt8} {take : List UInt8 → Rd α} (C : Codec ok put take) (f : α → β) (g : β → α) {ok' : β → Prop} (h1 : ∀ a, ok a → g (f a) = a ∧ ok' (f a)) (h2 : ∀ b, ok' b → f (g b) = b ∧ ok (g b)) :
    Codec ok' (fun b => put (g b)) (fun l => bind (take l) fun a r => Sum.inl (f a, r)) where
  back b r h := by rw [bind_ok _ (C.back (g b) r (h2 b h).2), (h2 b h).1]
  inv l b r h := by
    obtain ⟨a, q, hx, hf⟩ := bind_inv h
    have hf2 := Sum.inl.inj hf
    obtain ⟨hl, ho⟩ := C.inv l a q hx
    have e1 : f a = b := congrArg Prod.fst hf2
    have e2 : q = r := congrArg Prod.snd hf2
    subst e1 e2
    exact ⟨by rw [(h1 a ho).1]; exact hl, (h1 a ho).2⟩
  cut b k h hk := bind_bad _ (C.cut (g b) k (h2 b h).2 hk)

def intOk (z : Int) : Prop := 0 ≤ z ∧ z ≤ 1099511627776
/-- Numbers as ints. -/
theorem ints : Codec intOk (fun z => N.putL (N.held z)) (fun l => bind (N.takeL l) fun n r => Sum.inl ((n : Int), r)) :=
  nums.map (fun n => (n : Int)) N.held (fun a h => by unfold numOk at h; unfold N.held intOk; omega) (fun b h => by unfold intOk at h; unfold N.held numOk; omega)
def zigOk (z : Int) : Prop := -549755813888 ≤ z ∧ z ≤ 549755813888
theorem zig_zag {n : Nat} (h : n ≤ 1099511627776) : N.zigN (N.zag n) = n ∧ zigOk (N.zag n) := by
  unfold N.zigN N.heldI N.zag zigOk N.zig
  split
  · split <;> omega
  · split <;> omega
/-- Ints, below 0 or not. -/
theorem zigs : Codec zigOk (fun z => N.putL (N.zigN z)) (fun l => bind (N.takeL l) fun n r => Sum.inl (N.zag n, r)) :=
  nums.map N.zag N.zigN (fun a h => zig_zag h) (fun b h => by
    refine ⟨?_, N.zigN_le b⟩
    rw [N.zag_zig]; unfold zigOk at h; unfold N.heldI; omega)

/-- Texts. -/
def txtOk (most : Nat) (l : List UInt8) : Prop := l.length ≤ most
theorem texts {most : Nat} (hm : most ≤ 1000000) : Codec (txtOk most) N.putT (fun l => N.takeT l (most : Int)) where
  back a r h := N.takeT_put (by unfold txtOk at h; omega) (by unfold txtOk at h; omega)
  inv l a r h := by
    rcases N.takeL_cases l with ⟨e, hx⟩ | ⟨n, q, hx⟩
    · rw [N.takeT_bad _ hx] at h; cases h
    · by_cases h1 : (most : Int) < n
      · rw [N.takeT_long hx h1] at h; cases h
      · by_cases h2 : q.length < n
        · rw [N.takeT_short hx h1 h2] at h; cases h
        · rw [N.takeT_ok hx h1 h2] at h
          have h3 := Sum.inl.inj h
          have e1 : q.take n = a := congrArg Prod.fst h3
          have e2 : q.drop n = r := congrArg Prod.snd h3
          have hl : a.length = n := by rw [← e1, List.length_take]; omega
          refine ⟨?_, by unfold txtOk; omega⟩
          rw [(N.take_inv hx).1, N.putT, hl, List.append_assoc, ← e1, ← e2, List.take_append_drop]
  cut a k h hk := by
    unfold txtOk at h
    have hk2 : k < (N.putL a.length).length + a.length := by rw [← List.length_append]; exact hk
    by_cases h1 : k < (N.putL a.length).length
    · have e : (N.putT a).take k = (N.putL a.length).take k := by rw [N.putT, List.take_append_of_le_length (by omega)]
      rw [e]
      exact N.takeT_bad _ (nums.cut a.length k (by unfold numOk; omega) h1)
    · have e : (N.putT a).take k = N.putL a.length ++ a.take (k - (N.putL a.length).length) := by
        rw [N.putT, List.take_append, List.take_of_length_le (by omega)]
      rw [e]
      exact N.takeT_short (N.take_put (by omega) _) (by omega) (by rw [List.length_take]; omega)

/-- One behind the other. -/
theorem Codec.pair {α β : Type} {ok1 : α → Prop} {put1 : α → List UInt8} {take1 : List UInt8 → Rd α} (C1 : Codec ok1 put1 take1) {ok2 : β → Prop} {put2 : β → List UInt8} {take2 : List UInt8 → Rd β} (C2 : Codec ok2 put2 take2) :
    Codec (fun p : α × β => ok1 p.1 ∧ ok2 p.2) (fun p => put1 p.1 ++ put2 p.2) (fun l => bind (take1 l) fun a r => bind (take2 r) fun b q => Sum.inl ((a, b), q)) where
  back p r h := by rw [List.append_assoc, bind_ok _ (C1.back p.1 _ h.1), bind_ok _ (C2.back p.2 r h.2)]
  inv l p r h := by
    obtain ⟨a, q, hx, hf⟩ := bind_inv h
    obtain ⟨b, t, hy, hg⟩ := bind_inv hf
    have h3 := Sum.inl.inj hg
    have e1 : (a, b) = p := congrArg Prod.fst h3
    have e2 : t = r := congrArg Prod.snd h3
    subst e1 e2
    obtain ⟨h4, h5⟩ := C1.inv l a q hx
    obtain ⟨h6, h7⟩ := C2.inv q b t hy
    exact ⟨by rw [h4, h6, List.append_assoc], h5, h7⟩
  cut p k h hk := by
    rw [List.length_append] at hk
    by_cases h1 : k < (put1 p.1).length
    · rw [List.take_append_of_le_length (by omega)]
      exact bind_bad _ (C1.cut p.1 k h.1 h1)
    · rw [List.take_append, List.take_of_length_le (by omega), bind_ok _ (C1.back p.1 _ h.1)]
      exact bind_bad _ (C2.cut p.2 _ h.2 (by omega))

/-- What must be right besides: else an error, once all is taken. -/
theorem Codec.only {α : Type} {ok : α → Prop} {put : α → List UInt8} {take : List UInt8 → Rd α} (C : Codec ok put take) (good : α → Bool) (e : Nat) :
    Codec (fun a => ok a ∧ good a = true) put (fun l => bind (take l) fun a r => if good a = true then Sum.inl (a, r) else Sum.inr e) where
  back a r h := by rw [bind_ok _ (C.back a r h.1), if_pos h.2]
  inv l a r h := by
    obtain ⟨b, q, hx, hf⟩ := bind_inv h
    by_cases hb : good b = true
    · rw [if_pos hb] at hf
      have h3 := Sum.inl.inj hf
      have e1 : b = a := congrArg Prod.fst h3
      have e2 : q = r := congrArg Prod.snd h3
      subst e1 e2
      obtain ⟨h4, h5⟩ := C.inv l b q hx
      exact ⟨h4, h5, hb⟩
    · rw [if_neg hb] at hf; cases hf
  cut a k h hk := bind_bad _ (C.cut a k h.1 hk)

/-- So many, one behind the other. -/
def takeN {α : Type} (take : List UInt8 → Rd α) : Nat → List UInt8 → Rd (List α)
  | 0, l => Sum.inl ([], l)
  | n + 1, l => bind (take l) fun a r => bind (takeN take n r) fun as q => Sum.inl (a :: as, q)
theorem takeN_back {α : Type} {ok : α → Prop} {put : α → List UInt8} {take : List UInt8 → Rd α} (C : Codec ok put take) : ∀ (xs : List α) (r : List UInt8), (∀ x ∈ xs, ok x) → takeN take xs.length (xs.flatMap put ++ r) = Sum.inl (xs, r)
  | [], r, _ => rfl
  | x :: xs, r, h => by
    show bind (take _) _ = _
    rw [List.flatMap_cons, List.append_assoc, bind_ok _ (C.back x _ (h x (by simp))), bind_ok _ (takeN_back C xs r fun y hy => h y (by simp [hy]))]
theorem takeN_inv {α : Type} {ok : α → Prop} {put : α → List UInt8} {take : List UInt8 → Rd α} (C : Codec ok put take) : ∀ (n : Nat) (l : List UInt8) (xs : List α) (r : List UInt8), takeN take n l = Sum.inl (xs, r) → l = xs.flatMap put ++ r ∧ xs.length = n ∧ ∀ x ∈ xs, ok x
  | 0, l, xs, r, h => by
    have h3 := Sum.inl.inj h
    have e1 : [] = xs := congrArg Prod.fst h3
    have e2 : l = r := congrArg Prod.snd h3
    subst e1 e2
    exact ⟨rfl, rfl, by simp⟩
  | n + 1, l, xs, r, h => by
    obtain ⟨a, q, hx, hf⟩ := bind_inv h
    obtain ⟨ys, t, hy, hg⟩ := bind_inv hf
    have h3 := Sum.inl.inj hg
    have e1 : a :: ys = xs := congrArg Prod.fst h3
    have e2 : t = r := congrArg Prod.snd h3
    subst e1 e2
    obtain ⟨h4, h5⟩ := C.inv l a q hx
    obtain ⟨h6, h7, h8⟩ := takeN_inv C n q ys t hy
    refine ⟨by rw [h4, h6, List.flatMap_cons, List.append_assoc], by rw [List.length_cons, h7], ?_⟩
    intro x hx
    rcases List.mem_cons.1 hx with rfl | hx
    · exact h5
    · exact h8 x hx
theorem takeN_cut {α : Type} {ok : α → Prop} {put : α → List UInt8} {take : List UInt8 → Rd α} (C : Codec ok put take) : ∀ (xs : List α) (k : Nat), (∀ x ∈ xs, ok x) → k < (xs.flatMap put).length → takeN take xs.length ((xs.flatMap put).take k) = Sum.inr 3
  | [], k, _, hk => by simp at hk
  | x :: xs, k, h, hk => by
    show bind (take _) _ = _
    rw [List.flatMap_cons] at hk ⊢
    rw [List.length_append] at hk
    by_cases h1 : k < (put x).length
    · rw [List.take_append_of_le_length (by omega)]
      exact bind_bad _ (C.cut x k (h x (by simp)) h1)
    · rw [List.take_append, List.take_of_length_le (by omega), bind_ok _ (C.back x _ (h x (by simp)))]
      exact bind_bad _ (takeN_cut C xs _ (fun y hy => h y (by simp [hy])) (by omega))
/-- A list with how many there are ahead, no more than most. -/
theorem Codec.counted {α : Type} {ok : α → Prop} {put : α → List UInt8} {take : List UInt8 → Rd α} (C : Codec ok put take) {most : Nat} (hm : most ≤ 1099511627776) :
    Codec (fun xs : List α => xs.length ≤ most ∧ ∀ x ∈ xs, ok x) (fun xs => N.putL xs.length ++ xs.flatMap put) (fun l => bind (N.takeL l) fun n r => if most < n then Sum.inr 4 else takeN take n r) where
  back xs r h := by
    rw [List.append_assoc, bind_ok _ (N.take_put (by omega) _), if_neg (by omega)]
    exact takeN_back C xs r h.2
  inv l xs r h := by
    obtain ⟨n, q, hx, hf⟩ := bind_inv h
    by_cases hn : most < n
    · rw [if_pos hn] at hf; cases hf
    · rw [if_neg hn] at hf
      obtain ⟨h4, h5, h6⟩ := takeN_inv C n q xs r hf
      exact ⟨by rw [(N.take_inv hx).1, h4, h5, List.append_assoc], by omega, h6⟩
  cut xs k h hk := by
    rw [List.length_append] at hk
    by_cases h1 : k < (N.putL xs.length).length
    · rw [List.take_append_of_le_length (by omega)]
      exact bind_bad _ (nums.cut xs.length k (by unfold numOk; omega) h1)
    · rw [List.take_append, List.take_of_length_le (by omega), bind_ok _ (N.take_put (by omega) _), if_neg (by omega)]
      exact takeN_cut C xs _ h.2 (by omega)
end Go.Proofs.YtmfhipjceeijmaaGreatDoor.K
