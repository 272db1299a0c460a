/-
  Numbers and texts as rows of bytes, the document's chapter 2, over lists: what is put, what is taken, and what follows. No program in this text.
-/
import Derived.Lib.Hide
namespace Go.Proofs.Ytmfhipjceeijmaa.N

def bt (l : List UInt8) (i : Nat) : Nat := (l.getD i 0).toNat
theorem bt_lt (l : List UInt8) (i : Nat) : bt l i < 256 := (l.getD i 0).toNat_lt
theorem bt_drop (l : List UInt8) (i k : Nat) : bt (l.drop i) k = bt l (i + k) := by
  simp [bt, List.getD_eq_getElem?_getD]
theorem drop_cons {l : List UInt8} {k : Nat} (h : k < l.length) : ∃ c, l.drop k = c :: l.drop (k + 1) ∧ c.toNat = bt l k :=
  ⟨l[k], List.drop_eq_getElem_cons h, by simp [bt, List.getD_eq_getElem?_getD, h]⟩

theorem u8_nat {n : Nat} (h : n < 256) : (n.toUInt8).toNat = n := by
  rw [Nat.toUInt8, UInt8.toNat_ofNat']; omega
theorem u8_mk {c : UInt8} {n : Nat} (h : c.toNat = n) : c = n.toUInt8 := by
  have := c.toNat_lt
  exact UInt8.toNat_inj.1 (by rw [u8_nat (by omega)]; exact h)

/-- The bytes of a number. -/
def putF : Nat → Nat → List UInt8
  | 0, n => [n.toUInt8]
  | f + 1, n => if n < 128 then [n.toUInt8] else (n % 128 + 128).toUInt8 :: putF f (n / 128)
theorem putF_eq : ∀ (f g n : Nat), n ≤ f → n ≤ g → putF f n = putF g n
  | 0, 0, n, _, _ => rfl
  | 0, g + 1, n, hf, _ => by
    have : n = 0 := by omega
    subst this; simp [putF]
  | f + 1, 0, n, _, hg => by
    have : n = 0 := by omega
    subst this; simp [putF]
  | f + 1, g + 1, n, hf, hg => by
    simp only [putF]
    split
    · rfl
    · rw [putF_eq f g (n / 128) (by omega) (by omega)]
def putL (n : Nat) : List UInt8 := putF n n
theorem putL_lo {n : Nat} (h : n < 128) : putL n = [n.toUInt8] := by
  unfold putL
  cases n with
  | zero => rfl
  | succ k => rw [putF, if_pos h]
theorem putL_hi {n : Nat} (h : ¬ n < 128) : putL n = (n % 128 + 128).toUInt8 :: putL (n / 128) := by
  unfold putL
  cases n with
  | zero => omega
  | succ k => rw [putF, if_neg h, putF_eq k ((k + 1) / 128) ((k + 1) / 128) (by omega) (Nat.le_refl _)]
theorem putL_ne (n : Nat) : putL n ≠ [] := by
  by_cases h : n < 128
  · rw [putL_lo h]; simp
  · rw [putL_hi h]; simp
theorem putL_pos (n : Nat) : 1 ≤ (putL n).length := by
  have := putL_ne n
  cases h : putL n with
  | nil => exact absurd h this
  | cons a r => simp
theorem putL_len : ∀ (g m : Nat), m < 128 ^ (g + 1) → (putL m).length ≤ g + 1
  | 0, m, h => by rw [putL_lo (by omega)]; simp
  | g + 1, m, h => by
    by_cases c : m < 128
    · rw [putL_lo c]; simp
    · rw [putL_hi c]
      have := putL_len g (m / 128) (by rw [Nat.pow_succ] at h; omega)
      simp; omega
theorem putL_len6 {m : Nat} (h : m ≤ 1099511627776) : (putL m).length ≤ 6 := putL_len 5 m (by omega)
theorem putL_mono : ∀ (n a b : Nat), b ≤ n → a ≤ b → (putL a).length ≤ (putL b).length
  | 0, a, b, hn, h => by
    have h1 : a = 0 := by omega
    have h2 : b = 0 := by omega
    subst h1; subst h2; exact Nat.le_refl _
  | n + 1, a, b, hn, h => by
    by_cases ca : a < 128
    · rw [putL_lo ca]; have := putL_pos b; simpa using this
    · rw [putL_hi ca, putL_hi (n := b) (by omega)]
      have := putL_mono n (a / 128) (b / 128) (by omega) (by omega)
      simp; omega

/-- What is taken: a number and what is behind it, or what is wrong. -/
abbrev Tk : Type := Sum (Nat × List UInt8) Nat
abbrev Tk.ok (n : Nat) (rest : List UInt8) : Tk := Sum.inl (n, rest)
abbrev Tk.bad (e : Nat) : Tk := Sum.inr e

def takeG : Nat → Nat → List UInt8 → Tk
  | _, _, [] => .bad 3
  | 0, _, _ :: _ => .bad 2
  | g + 1, n, c :: r =>
    if 128 ≤ c.toNat then takeG g (n + c.toNat % 128 * 128 ^ (5 - g)) r
    else if c.toNat = 0 ∧ g < 5 then .bad 2
    else if 1099511627776 < n + c.toNat * 128 ^ (5 - g) then .bad 4
    else .ok (n + c.toNat * 128 ^ (5 - g)) r
def takeL (l : List UInt8) : Tk := takeG 6 0 l

theorem takeG_nil (g n : Nat) : takeG g n [] = .bad 3 := by cases g <;> rfl
theorem takeG_out (n : Nat) (c : UInt8) (r : List UInt8) : takeG 0 n (c :: r) = .bad 2 := rfl
theorem takeG_more {g n : Nat} {c : UInt8} {r : List UInt8} (h : 128 ≤ c.toNat) : takeG (g + 1) n (c :: r) = takeG g (n + c.toNat % 128 * 128 ^ (5 - g)) r := by
  rw [takeG, if_pos h]
theorem takeG_zero {g n : Nat} {c : UInt8} {r : List UInt8} (h : c.toNat = 0) (hg : g < 5) : takeG (g + 1) n (c :: r) = .bad 2 := by
  rw [takeG, if_neg (by omega), if_pos ⟨h, hg⟩]
theorem takeG_long {g n : Nat} {c : UInt8} {r : List UInt8} (h : c.toNat < 128) (hz : ¬ (c.toNat = 0 ∧ g < 5)) (hl : 1099511627776 < n + c.toNat * 128 ^ (5 - g)) : takeG (g + 1) n (c :: r) = .bad 4 := by
  rw [takeG, if_neg (by omega), if_neg hz, if_pos hl]
theorem takeG_ok {g n : Nat} {c : UInt8} {r : List UInt8} (h : c.toNat < 128) (hz : ¬ (c.toNat = 0 ∧ g < 5)) (hl : ¬ 1099511627776 < n + c.toNat * 128 ^ (5 - g)) : takeG (g + 1) n (c :: r) = .ok (n + c.toNat * 128 ^ (5 - g)) r := by
  rw [takeG, if_neg (by omega), if_neg hz, if_neg hl]

theorem split128 (m u : Nat) : m % 128 * u + m / 128 * (u * 128) = m * u := by
  have h := Nat.mod_add_div m 128
  calc m % 128 * u + m / 128 * (u * 128) = (m % 128 + 128 * (m / 128)) * u := by
        rw [Nat.add_mul, Nat.mul_comm 128 (m / 128), Nat.mul_assoc, Nat.mul_comm 128 u]
    _ = m * u := by rw [h]
theorem pow_step {g : Nat} (hg : g < 5) : 128 ^ (5 - g) = 128 ^ (5 - (g + 1)) * 128 := by
  rw [show 5 - g = (5 - (g + 1)) + 1 by omega, Nat.pow_succ]

theorem takeG_put : ∀ (g m n : Nat) (r : List UInt8), g < 6 → m < 128 ^ (g + 1) → (g < 5 → 1 ≤ m) → n + m * 128 ^ (5 - g) ≤ 1099511627776 →
    takeG (g + 1) n (putL m ++ r) = .ok (n + m * 128 ^ (5 - g)) r
  | g, m, n, r, hg, hm, hp, hl => by
    by_cases c : m < 128
    · have hc := u8_nat (n := m) (by omega)
      rw [putL_lo c, List.singleton_append, takeG_ok (by omega) (by rw [hc]; omega) (by rw [hc]; omega), hc]
    · have hc := u8_nat (n := m % 128 + 128) (by omega)
      rw [putL_hi c, List.cons_append, takeG_more (by omega), hc]
      match g, hg, hm, hl with
      | 0, _, hm, _ => exact absurd hm (by omega)
      | g + 1, hg, hm, hl =>
        have e := split128 m (128 ^ (5 - (g + 1)))
        have e2 : (m % 128 + 128) % 128 = m % 128 := by omega
        have e3 : n + m % 128 * 128 ^ (5 - (g + 1)) + m / 128 * 128 ^ (5 - g) = n + m * 128 ^ (5 - (g + 1)) := by
          rw [pow_step (g := g) (by omega)]; omega
        rw [e2, takeG_put g (m / 128) _ r (by omega) (by rw [Nat.pow_succ] at hm; omega) (by omega) (by rw [e3]; exact hl), e3]
theorem take_put {n : Nat} (h : n ≤ 1099511627776) (r : List UInt8) : takeL (putL n ++ r) = .ok n r := by
  have := takeG_put 5 n 0 r (by omega) (by omega) (by omega) (by omega)
  simpa [takeL] using this

theorem takeG_inv : ∀ (g n : Nat) (l : List UInt8) (v : Nat) (r : List UInt8), g < 6 → takeG (g + 1) n l = .ok v r →
    ∃ m, v = n + m * 128 ^ (5 - g) ∧ l = putL m ++ r ∧ (g < 5 → 1 ≤ m) ∧ m < 128 ^ (g + 1) ∧ v ≤ 1099511627776
  | g, n, [], v, r, hg, h => by rw [takeG_nil] at h; cases h
  | g, n, c :: t, v, r, hg, h => by
    have hc := c.toNat_lt
    have hp : 128 ≤ 128 ^ (g + 1) := by rw [Nat.pow_succ]; have := Nat.pow_pos (n := g) (show 0 < 128 by omega); omega
    by_cases h1 : 128 ≤ c.toNat
    · rw [takeG_more h1] at h
      match g, hg, h, hp with
      | 0, _, h, _ =>
        cases t with
        | nil => rw [takeG_nil] at h; cases h
        | cons a t => rw [takeG_out] at h; cases h
      | g + 1, hg, h, _ =>
        obtain ⟨m, hv, hl, hm, hb, hle⟩ := takeG_inv g _ t v r (by omega) h
        have hm1 := hm (by omega)
        refine ⟨c.toNat % 128 + m * 128, ?_, ?_, fun _ => by omega, by rw [Nat.pow_succ 128 (g + 1)]; omega, hle⟩
        · rw [hv, pow_step (g := g) (by omega), Nat.add_mul, Nat.mul_assoc m 128, Nat.mul_comm 128]; omega
        · rw [putL_hi (by omega), hl, List.cons_append]
          have e1 : (c.toNat % 128 + m * 128) / 128 = m := by omega
          have e2 : (c.toNat % 128 + m * 128) % 128 + 128 = c.toNat := by omega
          rw [e1, e2, ← u8_mk rfl]
    · by_cases hz : c.toNat = 0 ∧ g < 5
      · rw [takeG_zero hz.1 hz.2] at h; cases h
      · by_cases hl : 1099511627776 < n + c.toNat * 128 ^ (5 - g)
        · rw [takeG_long (by omega) hz hl] at h; cases h
        · rw [takeG_ok (by omega) hz hl] at h
          cases h
          refine ⟨c.toNat, rfl, ?_, fun _ => by omega, by omega, by omega⟩
          rw [putL_lo (by omega), ← u8_mk rfl]; rfl
theorem take_inv {l r : List UInt8} {v : Nat} (h : takeL l = .ok v r) : l = putL v ++ r ∧ v ≤ 1099511627776 := by
  obtain ⟨m, hv, hl, _, _, hle⟩ := takeG_inv 5 0 l v r (by omega) h
  have : v = m := by simpa using hv
  subst this
  exact ⟨hl, hle⟩
theorem takeG_short : ∀ (g m n : Nat), m < 128 ^ (g + 1) → takeG (g + 1) n (putL m).dropLast = .bad 3
  | g, m, n, hm => by
    by_cases c : m < 128
    · rw [putL_lo c]; exact takeG_nil _ _
    · match g, hm with
      | 0, hm => exact absurd hm (by omega)
      | g + 1, hm =>
        have hc := u8_nat (n := m % 128 + 128) (by omega)
        rw [putL_hi c, List.dropLast_cons_of_ne_nil (putL_ne _), takeG_more (by omega)]
        exact takeG_short g (m / 128) _ (by rw [Nat.pow_succ] at hm; omega)
theorem takeL_cases (l : List UInt8) : (∃ e, takeL l = .bad e) ∨ ∃ n r, takeL l = .ok n r := by
  cases h : takeL l with
  | inl p => exact .inr ⟨p.1, p.2, rfl⟩
  | inr e => exact .inl ⟨e, rfl⟩
theorem take_short {n : Nat} (h : n ≤ 1099511627776) : takeL (putL n).dropLast = .bad 3 := takeG_short 5 n 0 (by omega)

theorem put_prefix {a b : Nat} (ha : a ≤ 1099511627776) (hb : b ≤ 1099511627776) {r : List UInt8} (h : putL b = putL a ++ r) : a = b ∧ r = [] := by
  have h1 := take_put ha r
  have h2 := take_put hb []
  rw [List.append_nil, h, h1] at h2
  have h3 := Sum.inl.inj h2
  exact ⟨congrArg Prod.fst h3, congrArg Prod.snd h3⟩
theorem put_inj {a b : Nat} (ha : a ≤ 1099511627776) (hb : b ≤ 1099511627776) (h : putL a = putL b) : a = b :=
  (put_prefix (r := []) ha hb (by rw [List.append_nil]; exact h.symm)).1

/-- A number made 0 to 2^40; one made -2^39 to 2^39. -/
def held (n : Int) : Nat := (max 0 (min n 1099511627776)).toNat
theorem held_le (n : Int) : held n ≤ 1099511627776 := by unfold held; omega
def heldI (n : Int) : Int := max (-549755813888) (min n 549755813888)
theorem heldI_bd (n : Int) : -549755813888 ≤ heldI n ∧ heldI n ≤ 549755813888 := by unfold heldI; omega
def zig (n : Int) : Int := if n < 0 then -2 * n - 1 else 2 * n
def zigN (n : Int) : Nat := (zig (heldI n)).toNat
theorem zig_bd {n : Int} (h : -549755813888 ≤ n ∧ n ≤ 549755813888) : 0 ≤ zig n ∧ zig n ≤ 1099511627776 := by unfold zig; split <;> omega
theorem held_zig (n : Int) : held (zig (heldI n)) = zigN n := by
  have := zig_bd (heldI_bd n)
  unfold held zigN; omega
theorem zigN_le (n : Int) : zigN n ≤ 1099511627776 := by have := zig_bd (heldI_bd n); unfold zigN; omega
def zag (n : Nat) : Int := if n % 2 = 1 then -((n : Int) + 1) / 2 else n / 2
theorem zag_zig (n : Int) : zag (zigN n) = heldI n := by
  have := zig_bd (heldI_bd n)
  unfold zag zigN zig at *
  repeat' split
  all_goals (repeat' split at *)
  all_goals omega
theorem zigN_inj (a b : Int) : zigN a = zigN b ↔ heldI a = heldI b := by
  constructor
  · intro h; rw [← zag_zig a, ← zag_zig b, h]
  · intro h; unfold zigN; rw [h]

/-- The bytes of a text, and what is taken as one. -/
def putT (l : List UInt8) : List UInt8 := putL l.length ++ l
theorem putT_len {l : List UInt8} (h : l.length ≤ 1000000) : (putT l).length ≤ l.length + 6 := by
  have := putL_len6 (m := l.length) (by omega)
  simp [putT]; omega
abbrev Tt : Type := Sum (List UInt8 × List UInt8) Nat
abbrev Tt.ok (t rest : List UInt8) : Tt := Sum.inl (t, rest)
abbrev Tt.bad (e : Nat) : Tt := Sum.inr e
def takeT (l : List UInt8) (most : Int) : Tt :=
  match takeL l with
  | Sum.inr e => .bad e
  | Sum.inl (n, r) => if most < n then .bad 4 else if r.length < n then .bad 3 else .ok (r.take n) (r.drop n)
theorem takeT_bad {l : List UInt8} {e : Nat} (most : Int) (h : takeL l = .bad e) : takeT l most = .bad e := by simp only [takeT, h, Tk.bad]
theorem takeT_long {l r : List UInt8} {n : Nat} {most : Int} (h : takeL l = .ok n r) (hm : most < n) : takeT l most = .bad 4 := by simp only [takeT, h, Tk.ok, if_pos hm]
theorem takeT_short {l r : List UInt8} {n : Nat} {most : Int} (h : takeL l = .ok n r) (hm : ¬ most < n) (hl : r.length < n) : takeT l most = .bad 3 := by simp only [takeT, h, Tk.ok, if_neg hm, if_pos hl]
theorem takeT_ok {l r : List UInt8} {n : Nat} {most : Int} (h : takeL l = .ok n r) (hm : ¬ most < n) (hl : ¬ r.length < n) : takeT l most = .ok (r.take n) (r.drop n) := by simp only [takeT, h, Tk.ok, if_neg hm, if_neg hl]
theorem takeT_put {l r : List UInt8} {most : Int} (h : l.length ≤ 1000000) (hm : ¬ most < l.length) : takeT (putT l ++ r) most = .ok l r := by
  have e : takeL (putT l ++ r) = .ok l.length (l ++ r) := by rw [putT, List.append_assoc]; exact take_put (by omega) _
  rw [takeT_ok e hm (by simp)]; simp
theorem takeT_put_long {l r : List UInt8} {most : Int} (h : l.length ≤ 1000000) (hm : most < l.length) : takeT (putT l ++ r) most = .bad 4 := by
  have e : takeL (putT l ++ r) = .ok l.length (l ++ r) := by rw [putT, List.append_assoc]; exact take_put (by omega) _
  exact takeT_long e hm

/-- Four bytes, the highest one first. -/
def fixL (n : Nat) : List UInt8 := [(n / 16777216 % 256).toUInt8, (n / 65536 % 256).toUInt8, (n / 256 % 256).toUInt8, (n % 256).toUInt8]
def fixV (l : List UInt8) : Nat := ((bt l 0 * 256 + bt l 1) * 256 + bt l 2) * 256 + bt l 3
theorem fixV_lt (l : List UInt8) : fixV l < 4294967296 := by
  have := bt_lt l 0; have := bt_lt l 1; have := bt_lt l 2; have := bt_lt l 3
  unfold fixV; omega
theorem fix_back {n : Nat} (h : n < 4294967296) (r : List UInt8) : fixV (fixL n ++ r) = n ∧ (fixL n ++ r).drop 4 = r := by
  refine ⟨?_, rfl⟩
  have e0 : bt (fixL n ++ r) 0 = n / 16777216 % 256 := u8_nat (by omega)
  have e1 : bt (fixL n ++ r) 1 = n / 65536 % 256 := u8_nat (by omega)
  have e2 : bt (fixL n ++ r) 2 = n / 256 % 256 := u8_nat (by omega)
  have e3 : bt (fixL n ++ r) 3 = n % 256 := u8_nat (by omega)
  unfold fixV
  rw [e0, e1, e2, e3]; omega
end Go.Proofs.Ytmfhipjceeijmaa.N
