/-
  Own texts, joined: CrcSpec
-/


/-
  The sum of the document's chapter 3, over lists of bytes: the register, bit by bit; that it is linear, that four bits may be dropped at once, and that up to 32 unlike bits beside one another leave unlike registers. No program in this text.
-/
namespace Go.Proofs.YtmfhipjceeijmaaGreatDoor.C

theorem xor_cancel (a b : Nat) : a ^^^ b ^^^ b = a := by rw [Nat.xor_assoc, Nat.xor_self, Nat.xor_zero]
theorem xor_swap (a b c d : Nat) : (a ^^^ b) ^^^ (c ^^^ d) = (a ^^^ c) ^^^ (b ^^^ d) := by
  rw [Nat.xor_assoc, Nat.xor_assoc, ← Nat.xor_assoc b c d, Nat.xor_comm b c, Nat.xor_assoc c b d]
theorem xor_eq_zero {a b : Nat} (h : a ^^^ b = 0) : a = b := by
  have := congrArg (· ^^^ b) h
  simpa [xor_cancel] using this

/-- A register of any width: its lowest bit is dropped. -/
def step (r : Nat) : Nat := r / 2 ^^^ r % 2 * 3988292384
theorem mod2_xor (a b : Nat) : (a ^^^ b) % 2 * 3988292384 = a % 2 * 3988292384 ^^^ b % 2 * 3988292384 := by
  have h : (a ^^^ b) % 2 = (a % 2) ^^^ (b % 2) := Nat.xor_mod_two_pow (n := 1)
  rw [h]
  rcases Nat.mod_two_eq_zero_or_one a with ha | ha <;> rcases Nat.mod_two_eq_zero_or_one b with hb | hb <;> rw [ha, hb] <;> decide
theorem step_xor (a b : Nat) : step (a ^^^ b) = step a ^^^ step b := by
  unfold step
  rw [mod2_xor, Nat.xor_div_two, xor_swap]
theorem step_two (a : Nat) : step (2 * a) = a := by
  unfold step
  rw [show 2 * a / 2 = a by omega, show 2 * a % 2 = 0 by omega, Nat.zero_mul, Nat.xor_zero]
theorem step_lt {r : Nat} (h : r < 4294967296) : step r < 4294967296 := by
  unfold step
  refine Nat.xor_lt_two_pow (n := 32) (by omega) ?_
  have : r % 2 ≤ 1 := by omega
  calc r % 2 * 3988292384 ≤ 1 * 3988292384 := Nat.mul_le_mul_right _ this
    _ < 2 ^ 32 := by decide
theorem step_even {r : Nat} (h : r % 2 = 0) : step r = r / 2 := by unfold step; rw [h]; simp
theorem step_odd {r : Nat} (h : r % 2 = 1) : step r = r / 2 ^^^ 3988292384 := by unfold step; rw [h]
theorem step_zero : step 0 = 0 := by decide
theorem step_eq_zero {r : Nat} (h : r < 4294967296) (h0 : step r = 0) : r = 0 := by
  rcases Nat.mod_two_eq_zero_or_one r with hr | hr
  · rw [step_even hr] at h0; omega
  · rw [step_odd hr] at h0
    have := xor_eq_zero h0
    omega

def steps : Nat → Nat → Nat
  | 0, r => r
  | n + 1, r => steps n (step r)
theorem steps_add : ∀ (m n r : Nat), steps (m + n) r = steps n (steps m r)
  | 0, n, r => by rw [Nat.zero_add]; rfl
  | m + 1, n, r => by rw [Nat.add_right_comm]; exact steps_add m n (step r)
theorem steps_xor : ∀ (n a b : Nat), steps n (a ^^^ b) = steps n a ^^^ steps n b
  | 0, _, _ => rfl
  | n + 1, a, b => by show steps n (step (a ^^^ b)) = _; rw [step_xor]; exact steps_xor n _ _
theorem steps_pow : ∀ (n a : Nat), steps n (2 ^ n * a) = a
  | 0, a => by show 2 ^ 0 * a = a; omega
  | n + 1, a => by
    show steps n (step (2 ^ (n + 1) * a)) = a
    rw [show 2 ^ (n + 1) * a = 2 * (2 ^ n * a) by rw [Nat.pow_succ, Nat.mul_comm (2 ^ n) 2, Nat.mul_assoc], step_two]
    exact steps_pow n a
theorem steps_lt : ∀ (n : Nat) {r : Nat}, r < 4294967296 → steps n r < 4294967296
  | 0, _, h => h
  | n + 1, _, h => steps_lt n (step_lt h)
theorem steps_zero : ∀ (n : Nat), steps n 0 = 0
  | 0 => rfl
  | n + 1 => by show steps n (step 0) = 0; rw [step_zero]; exact steps_zero n
theorem steps_eq_zero : ∀ (n : Nat) {r : Nat}, r < 4294967296 → steps n r = 0 → r = 0
  | 0, _, _, h0 => h0
  | n + 1, _, h, h0 => step_eq_zero h (steps_eq_zero n (step_lt h) h0)
theorem steps_end : ∀ (n r : Nat), steps (n + 1) r = step (steps n r)
  | 0, _ => rfl
  | n + 1, r => steps_end n (step r)

/-- Four bits at once: what stands above them is only moved down. -/
theorem split_pow (n r : Nat) : r = 2 ^ n * (r / 2 ^ n) ^^^ r % 2 ^ n := by
  apply Nat.eq_of_testBit_eq
  intro i
  rw [Nat.testBit_xor, Nat.testBit_mod_two_pow, Nat.testBit_two_pow_mul, Nat.testBit_div_two_pow]
  by_cases h : i < n
  · have : ¬ n ≤ i := by omega
    simp [h, this]
  · have : n ≤ i := by omega
    have h2 : i - n + n = i := by omega
    simp [h, this, h2]
theorem half (r : Nat) : r / 16 ^^^ steps 4 (r % 16) = steps 4 r := by
  have h := split_pow 4 r
  have h2 := congrArg (steps 4) h
  rw [steps_xor, steps_pow] at h2
  exact h2.symm

/-- A byte, and a text. -/
def eat (r b : Nat) : Nat := steps 8 (r ^^^ b)
theorem eat_lt {r b : Nat} (h : r < 4294967296) (hb : b < 256) : eat r b < 4294967296 := steps_lt 8 (Nat.xor_lt_two_pow (n := 32) h (by omega))
theorem eat_xor (a b c d : Nat) : eat (a ^^^ b) (c ^^^ d) = eat a c ^^^ eat b d := by
  unfold eat
  rw [xor_swap, steps_xor]
theorem eat_two (r b : Nat) : eat r b = steps 4 (steps 4 (r ^^^ b)) := steps_add 4 4 _
def reg (r : Nat) (l : List UInt8) : Nat := l.foldl (fun r b => eat r b.toNat) r
theorem reg_nil (r : Nat) : reg r [] = r := rfl
theorem reg_cons (r : Nat) (b : UInt8) (l : List UInt8) : reg r (b :: l) = reg (eat r b.toNat) l := rfl
theorem reg_append (r : Nat) (l m : List UInt8) : reg r (l ++ m) = reg (reg r l) m := List.foldl_append ..
theorem reg_lt : ∀ (l : List UInt8) {r : Nat}, r < 4294967296 → reg r l < 4294967296
  | [], _, h => h
  | b :: l, _, h => reg_lt l (eat_lt h b.toNat_lt)
theorem reg_take {l : List UInt8} {k : Nat} (r : Nat) (h : k < l.length) : reg r (l.take (k + 1)) = eat (reg r (l.take k)) (l.getD k 0).toNat := by
  rw [List.take_succ_eq_append_getElem h, reg_append]
  simp [reg, List.getD_eq_getElem?_getD, h]

/-- The complement. -/
def inv (c : Nat) : Nat := c ^^^ 4294967295
theorem inv_lt {c : Nat} (h : c < 4294967296) : inv c < 4294967296 := by
  have h2 : c ^^^ 4294967295 < 2 ^ 32 := Nat.xor_lt_two_pow (by omega) (by omega)
  unfold inv
  omega
theorem inv_inv (c : Nat) : inv (inv c) = c := xor_cancel c 4294967295
theorem inv_inj {a b : Nat} (h : inv a = inv b) : a = b := by rw [← inv_inv a, h, inv_inv]
def upd (c : Nat) (l : List UInt8) : Nat := inv (reg (inv c) l)
theorem upd_lt {c : Nat} (h : c < 4294967296) (l : List UInt8) : upd c l < 4294967296 := inv_lt (reg_lt l (inv_lt h))
theorem upd_append (c : Nat) (l m : List UInt8) : upd c (l ++ m) = upd (upd c l) m := by unfold upd; rw [inv_inv, reg_append]
theorem upd_nil (c : Nat) : upd c [] = c := inv_inv c

/-- Three texts of one length, xored. -/
theorem reg_three {s t u x : List UInt8} {k a : Nat} (h : reg a x = reg a (s.take k) ^^^ reg a (t.take k) ^^^ reg a (u.take k)) (hs : k < s.length) (ht : k < t.length) (hu : k < u.length) {b : UInt8}
    (hb : b.toNat = (s.getD k 0).toNat ^^^ (t.getD k 0).toNat ^^^ (u.getD k 0).toNat) :
    reg a (x ++ [b]) = reg a (s.take (k + 1)) ^^^ reg a (t.take (k + 1)) ^^^ reg a (u.take (k + 1)) := by
  rw [reg_take a hs, reg_take a ht, reg_take a hu, ← eat_xor, ← eat_xor, ← h, ← hb, reg_append]
  rfl
theorem upd_three {s t u x : List UInt8} (h : reg 4294967295 x = reg 4294967295 s ^^^ reg 4294967295 t ^^^ reg 4294967295 u) : upd 0 x = upd 0 s ^^^ upd 0 t ^^^ upd 0 u := by
  have e : inv 0 = 4294967295 := by decide
  unfold upd
  rw [e, h]
  generalize reg 4294967295 s = p
  generalize reg 4294967295 t = q
  generalize reg 4294967295 u = r
  unfold inv
  rw [xor_swap p _ q, Nat.xor_self, Nat.xor_zero, Nat.xor_assoc (p ^^^ q)]

/-- The bytes of a text as one number, the first byte lowest. -/
def val : List UInt8 → Nat
  | [] => 0
  | b :: l => b.toNat ^^^ 2 ^ 8 * val l
theorem reg_val : ∀ (l : List UInt8) (r : Nat), reg r l = steps (8 * l.length) (r ^^^ val l)
  | [], r => by show r = steps 0 (r ^^^ 0); rw [Nat.xor_zero]; rfl
  | b :: l, r => by
    rw [reg_cons, reg_val l, List.length_cons, show 8 * (l.length + 1) = 8 + 8 * l.length by omega, steps_add]
    congr 1
    show _ = steps 8 (r ^^^ (b.toNat ^^^ 2 ^ 8 * val l))
    rw [← Nat.xor_assoc, steps_xor, steps_pow]
    rfl
theorem val_lt : ∀ (l : List UInt8), val l < 2 ^ (8 * l.length)
  | [] => by simp [val]
  | b :: l => by
    have h := val_lt l
    have hb := b.toNat_lt
    show b.toNat ^^^ 2 ^ 8 * val l < _
    rw [List.length_cons, show 8 * (l.length + 1) = 8 + 8 * l.length by omega]
    refine Nat.xor_lt_two_pow ?_ ?_
    · exact Nat.lt_of_lt_of_le hb (Nat.pow_le_pow_right (n := 2) (i := 8) (by omega) (by omega))
    · rw [Nat.pow_add]; exact Nat.mul_lt_mul_of_pos_left h (by decide)
theorem byte_split {a b x y : Nat} (ha : a < 256) (hb : b < 256) (h : a ^^^ 2 ^ 8 * x = b ^^^ 2 ^ 8 * y) : a = b ∧ x = y := by
  have key : ∀ {c z : Nat}, c < 256 → (c ^^^ 2 ^ 8 * z) % 2 ^ 8 = c ∧ (c ^^^ 2 ^ 8 * z) / 2 ^ 8 = z := by
    intro c z hc
    constructor
    · rw [Nat.xor_mod_two_pow, Nat.mul_mod_right, Nat.xor_zero]; exact Nat.mod_eq_of_lt hc
    · rw [Nat.xor_div_two_pow, Nat.mul_div_cancel_left _ (by decide), Nat.div_eq_of_lt hc, Nat.zero_xor]
  have h1 := key (z := x) ha
  have h2 := key (z := y) hb
  rw [h] at h1
  exact ⟨h1.1.symm.trans h2.1, h1.2.symm.trans h2.2⟩
theorem val_inj : ∀ {l m : List UInt8}, l.length = m.length → val l = val m → l = m
  | [], [], _, _ => rfl
  | [], _ :: _, h, _ => by simp at h
  | _ :: _, [], h, _ => by simp at h
  | a :: l, b :: m, h, hv => by
    have h2 := byte_split a.toNat_lt b.toNat_lt hv
    rw [UInt8.toNat_inj.1 h2.1, val_inj (by simpa using h) h2.2]
theorem val_set : ∀ (l : List UInt8) (i j : Nat) (b : UInt8), i < l.length → b.toNat = (l.getD i 0).toNat ^^^ 2 ^ j → val (l.set i b) = val l ^^^ 2 ^ (8 * i + j)
  | [], i, _, _, h, _ => by simp at h
  | a :: l, 0, j, b, _, hb => by
    have hb2 : b.toNat = a.toNat ^^^ 2 ^ j := by simpa using hb
    show b.toNat ^^^ 2 ^ 8 * val l = (a.toNat ^^^ 2 ^ 8 * val l) ^^^ 2 ^ (8 * 0 + j)
    rw [hb2, Nat.mul_zero, Nat.zero_add, Nat.xor_assoc, Nat.xor_assoc, Nat.xor_comm (2 ^ j)]
  | a :: l, i + 1, j, b, h, hb => by
    have h2 := val_set l i j b (by simpa using h) (by simpa using hb)
    show a.toNat ^^^ 2 ^ 8 * val (l.set i b) = (a.toNat ^^^ 2 ^ 8 * val l) ^^^ 2 ^ (8 * (i + 1) + j)
    rw [h2, show 8 * (i + 1) + j = 8 + (8 * i + j) by omega, Nat.pow_add 2 8, Nat.xor_assoc]
    congr 1
    apply Nat.eq_of_testBit_eq
    intro k
    simp only [Nat.testBit_xor, Nat.testBit_two_pow_mul]
    cases decide (8 ≤ k) <;> simp

/-- Bits of a number, one more. -/
theorem mul_xor (n a b : Nat) : 2 ^ n * (a ^^^ b) = 2 ^ n * a ^^^ 2 ^ n * b := by
  apply Nat.eq_of_testBit_eq
  intro k
  simp only [Nat.testBit_xor, Nat.testBit_two_pow_mul]
  cases decide (n ≤ k) <;> simp
theorem bits_more_one {m i : Nat} (h : m / 2 ^ i % 2 = 1) : m % 2 ^ (i + 1) = m % 2 ^ i ^^^ 2 ^ i := by
  apply Nat.eq_of_testBit_eq
  intro k
  have hb : m.testBit i = true := by rw [Nat.testBit_eq_decide_div_mod_eq]; simp [h]
  rw [Nat.testBit_xor, Nat.testBit_mod_two_pow, Nat.testBit_mod_two_pow, Nat.testBit_two_pow]
  by_cases h1 : k = i
  · subst h1; simp [hb]
  · by_cases h2 : k < i
    · have : k < i + 1 := by omega
      have h3 : ¬ i = k := by omega
      simp [h2, this, h3]
    · have : ¬ k < i + 1 := by omega
      have h3 : ¬ i = k := by omega
      simp [h2, this, h3]
theorem bits_more_none {m i : Nat} (h : m / 2 ^ i % 2 = 0) : m % 2 ^ (i + 1) = m % 2 ^ i := by
  apply Nat.eq_of_testBit_eq
  intro k
  have hb : m.testBit i = false := by rw [Nat.testBit_eq_decide_div_mod_eq]; simp [h]
  rw [Nat.testBit_mod_two_pow, Nat.testBit_mod_two_pow]
  by_cases h1 : k = i
  · subst h1; simp [hb]
  · by_cases h2 : k < i
    · have : k < i + 1 := by omega
      simp [h2, this]
    · have : ¬ k < i + 1 := by omega
      simp [h2, this]

/-- Up to 32 unlike bits beside one another leave unlike sums. -/
theorem finds {s t : List UInt8} {c at' m : Nat} (hl : t.length = s.length) (hm : m < 4294967296) (ha : at' ≤ 8 * s.length) (hv : val t = val s ^^^ 2 ^ at' * m) :
    (t = s) ↔ (upd c s = upd c t) := by
  constructor
  · rintro rfl; rfl
  · intro h
    have h1 := inv_inj h
    rw [reg_val, reg_val, hl, hv, ← Nat.xor_assoc, steps_xor _ (inv c ^^^ val s)] at h1
    have h2 : steps (8 * s.length) (2 ^ at' * m) = 0 := by
      have := congrArg (steps (8 * s.length) (inv c ^^^ val s) ^^^ ·) h1
      rw [Nat.xor_self, ← Nat.xor_assoc, Nat.xor_self, Nat.zero_xor] at this
      exact this.symm
    rw [show 8 * s.length = at' + (8 * s.length - at') by omega, steps_add, steps_pow] at h2
    have h3 := steps_eq_zero _ hm h2
    subst h3
    rw [Nat.mul_zero, Nat.xor_zero] at hv
    exact val_inj hl hv
end Go.Proofs.YtmfhipjceeijmaaGreatDoor.C
