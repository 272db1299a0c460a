/-
  Ways to put things as bytes and to take them off the front, over lists of bytes: numbers, texts, pairs, counted lists, what must be right besides; what was put is taken, what is taken was put, and what is cut is short. No program in this text.
-/
import Derived.Test.YtmfhipjceeijmaaNumSpec
namespace Go.Proofs.Ytmfhipjceeijmaa.K

abbrev Rd (α : Type) : Type := Sum (α × List UInt8) Nat
def bind {α β : Type} (x : Rd α) (f : α → List UInt8 → Rd β) : Rd β :=
  match x with
  | Sum.inl (a, r) => f a r
  | Sum.inr e => Sum.inr e
theorem bind_ok {α β : Type} {x : Rd α} {a : α} {r : List UInt8} (f : α → List UInt8 → Rd β) (h : x = Sum.inl (a, r)) : bind x f = f a r := by rw [h]; rfl
theorem bind_bad {α β : Type} {x : Rd α} {e : Nat} (f : α → List UInt8 → Rd β) (h : x = Sum.inr e) : bind x f = Sum.inr e := by rw [h]; rfl
theorem cases {α : Type} (x : Rd α) : (∃ e, x = Sum.inr e) ∨ ∃ a r, x = Sum.inl (a, r) := by
  cases x with
  | inl p => exact .inr ⟨p.1, p.2, rfl⟩
  | inr e => exact .inl ⟨e, rfl⟩
theorem bind_inv {α β : Type} {x : Rd α} {f : α → List UInt8 → Rd β} {b : β} {q : List UInt8} (h : bind x f = Sum.inl (b, q)) : ∃ a r, x = Sum.inl (a, r) ∧ f a r = Sum.inl (b, q) := by
  rcases cases x with ⟨e, hx⟩ | ⟨a, r, hx⟩
  · rw [bind_bad f hx] at h; cases h
  · rw [bind_ok f hx] at h; exact ⟨a, r, hx, h⟩

structure Codec {α : Type} (ok : α → Prop) (put : α → List UInt8) (take : List UInt8 → Rd α) : Prop where
  back : ∀ a r, ok a → take (put a ++ r) = Sum.inl (a, r)
  inv : ∀ l a r, take l = Sum.inl (a, r) → l = put a ++ r ∧ ok a
  cut : ∀ a k, ok a → k < (put a).length → take ((put a).take k) = Sum.inr 3

theorem Codec.inj {α : Type} {ok : α → Prop} {put : α → List UInt8} {take : List UInt8 → Rd α} (C : Codec ok put take) {a b : α} (ha : ok a) (hb : ok b) (h : put a = put b) : a = b := by
  have h1 := C.back a [] ha
  have h2 := C.back b [] hb
  rw [h, h2] at h1
  exact (congrArg Prod.fst (Sum.inl.inj h1)).symm
theorem Codec.last {α : Type} {ok : α → Prop} {put : α → List UInt8} {take : List UInt8 → Rd α} (C : Codec ok put take) {a : α} (ha : ok a) (h : 0 < (put a).length) : take ((put a).take ((put a).length - 1)) = Sum.inr 3 :=
  C.cut a _ ha (by omega)

/-- Numbers. -/
theorem takeG_cut : ∀ (g m n k : Nat), m < 128 ^ (g + 1) → k < (N.putL m).length → N.takeG (g + 1) n ((N.putL m).take k) = .bad 3
  | g, m, n, k, hm, hk => by
    by_cases c : m < 128
    · rw [N.putL_lo c] at hk ⊢
      obtain rfl : k = 0 := by simpa using hk
      exact N.takeG_nil _ _
    · match g, hm with
      | 0, hm => exact absurd hm (by omega)
      | g + 1, hm =>
        have hc := N.u8_nat (n := m % 128 + 128) (by omega)
        rw [N.putL_hi c] at hk ⊢
        cases k with
        | zero => exact N.takeG_nil _ _
        | succ k =>
          rw [List.take_succ_cons, N.takeG_more (by omega)]
          exact takeG_cut g (m / 128) _ k (by rw [Nat.pow_succ] at hm; omega) (by simpa using hk)
def numOk (n : Nat) : Prop := n ≤ 1099511627776
theorem nums : Codec numOk N.putL N.takeL where
  back a r h := N.take_put h r
  inv l a r h := N.take_inv h
  cut a k h hk := takeG_cut 5 a 0 k (by unfold numOk at h; omega) hk

/-- Another name for what is put. -/
theorem Codec.map {α β : Type} {ok : α → Prop} {put : α → List UInt8} {take : List UInt8 → Rd α} (C : Codec ok put take) (f : α → β) (g : β → α) {ok' : β → Prop} (h1 : ∀ a, ok a → g (f a) = a ∧ ok' (f a)) (h2 : ∀ b, ok' b → f (g b) = b ∧ ok (g b)) :
    Codec ok' (fun b => put (g b)) (fun l => bind (take l) fun a r => Sum.inl (f a, r)) where
  back b r h := by rw [bind_ok _ (C.back (g b) r (h2 b h).2), (h2 b h).1]
  inv l b r h := by
    obtain ⟨a, q, hx, hf⟩ := bind_inv h
    have hf2 := Sum.inl.inj hf
    obtain ⟨hl, ho⟩ := C.inv l a q hx
    have e1 : f a = b := congrArg Prod.fst hf2
    have e2 : q = r := congrArg Prod.snd hf2
    subst e1 e2
    exact ⟨by rw [(h1 a ho).1]; exact hl, (h1 a ho).2⟩
  cut b k h hk := bind_bad _ (C.cut (g b) k (h2 b h).2 hk)

def intOk (z : Int) : Prop := 0 ≤ z ∧ z ≤ 1099511627776
/-- Numbers as ints. -/
theorem ints : Codec intOk (fun z => N.putL (N.held z)) (fun l => bind (N.takeL l) fun n r => Sum.inl ((n : Int), r)) :=
  nums.map (fun n => (n : Int)) N.held (fun a h => by unfold numOk at h; unfold N.held intOk; omega) (fun b h => by unfold intOk at h; unfold N.held numOk; omega)
def zigOk (z : Int) : Prop := -549755813888 ≤ z ∧ z ≤ 549755813888
theorem zig_zag {n : Nat} (h : n ≤ 1099511627776) : N.zigN (N.zag n) = n ∧ zigOk (N.zag n) := by
  unfold N.zigN N.heldI N.zag zigOk N.zig
  split
  · split <;> omega
  · split <;> omega
/-- Ints, below 0 or not. -/
theorem zigs : Codec zigOk (fun z => N.putL (N.zigN z)) (fun l => bind (N.takeL l) fun n r => Sum.inl (N.zag n, r)) :=
  nums.map N.zag N.zigN (fun a h => zig_zag h) (fun b h => by
    refine ⟨?_, N.zigN_le b⟩
    rw [N.zag_zig]; unfold zigOk at h; unfold N.heldI; omega)

/-- Texts. -/
def txtOk (most : Nat) (l : List UInt8) : Prop := l.length ≤ most
theorem texts {most : Nat} (hm : most ≤ 1000000) : Codec (txtOk most) N.putT (fun l => N.takeT l (most : Int)) where
  back a r h := N.takeT_put (by unfold txtOk at h; omega) (by unfold txtOk at h; omega)
  inv l a r h := by
    rcases N.takeL_cases l with ⟨e, hx⟩ | ⟨n, q, hx⟩
    · rw [N.takeT_bad _ hx] at h; cases h
    · by_cases h1 : (most : Int) < n
      · rw [N.takeT_long hx h1] at h; cases h
      · by_cases h2 : q.length < n
        · rw [N.takeT_short hx h1 h2] at h; cases h
        · rw [N.takeT_ok hx h1 h2] at h
          have h3 := Sum.inl.inj h
          have e1 : q.take n = a := congrArg Prod.fst h3
          have e2 : q.drop n = r := congrArg Prod.snd h3
          have hl : a.length = n := by rw [← e1, List.length_take]; omega
          refine ⟨?_, by unfold txtOk; omega⟩
          rw [(N.take_inv hx).1, N.putT, hl, List.append_assoc, ← e1, ← e2, List.take_append_drop]
  cut a k h hk := by
    unfold txtOk at h
    have hk2 : k < (N.putL a.length).length + a.length := by rw [← List.length_append]; exact hk
    by_cases h1 : k < (N.putL a.length).length
    · have e : (N.putT a).take k = (N.putL a.length).take k := by rw [N.putT, List.take_append_of_le_length (by omega)]
      rw [e]
      exact N.takeT_bad _ (nums.cut a.length k (by unfold numOk; omega) h1)
    · have e : (N.putT a).take k = N.putL a.length ++ a.take (k - (N.putL a.length).length) := by
        rw [N.putT, List.take_append, List.take_of_length_le (by omega)]
      rw [e]
      exact N.takeT_short (N.take_put (by omega) _) (by omega) (by rw [List.length_take]; omega)

/-- One behind the other. -/
theorem Codec.pair {α β : Type} {ok1 : α → Prop} {put1 : α → List UInt8} {take1 : List UInt8 → Rd α} (C1 : Codec ok1 put1 take1) {ok2 : β → Prop} {put2 : β → List UInt8} {take2 : List UInt8 → Rd β} (C2 : Codec ok2 put2 take2) :
    Codec (fun p : α × β => ok1 p.1 ∧ ok2 p.2) (fun p => put1 p.1 ++ put2 p.2) (fun l => bind (take1 l) fun a r => bind (take2 r) fun b q => Sum.inl ((a, b), q)) where
  back p r h := by rw [List.append_assoc, bind_ok _ (C1.back p.1 _ h.1), bind_ok _ (C2.back p.2 r h.2)]
  inv l p r h := by
    obtain ⟨a, q, hx, hf⟩ := bind_inv h
    obtain ⟨b, t, hy, hg⟩ := bind_inv hf
    have h3 := Sum.inl.inj hg
    have e1 : (a, b) = p := congrArg Prod.fst h3
    have e2 : t = r := congrArg Prod.snd h3
    subst e1 e2
    obtain ⟨h4, h5⟩ := C1.inv l a q hx
    obtain ⟨h6, h7⟩ := C2.inv q b t hy
    exact ⟨by rw [h4, h6, List.append_assoc], h5, h7⟩
  cut p k h hk := by
    rw [List.length_append] at hk
    by_cases h1 : k < (put1 p.1).length
    · rw [List.take_append_of_le_length (by omega)]
      exact bind_bad _ (C1.cut p.1 k h.1 h1)
    · rw [List.take_append, List.take_of_length_le (by omega), bind_ok _ (C1.back p.1 _ h.1)]
      exact bind_bad _ (C2.cut p.2 _ h.2 (by omega))

/-- What must be right besides: else an error, once all is taken. -/
theorem Codec.only {α : Type} {ok : α → Prop} {put : α → List UInt8} {take : List UInt8 → Rd α} (C : Codec ok put take) (good : α → Bool) (e : Nat) :
    Codec (fun a => ok a ∧ good a = true) put (fun l => bind (take l) fun a r => if good a = true then Sum.inl (a, r) else Sum.inr e) where
  back a r h := by rw [bind_ok _ (C.back a r h.1), if_pos h.2]
  inv l a r h := by
    obtain ⟨b, q, hx, hf⟩ := bind_inv h
    by_cases hb : good b = true
    · rw [if_pos hb] at hf
      have h3 := Sum.inl.inj hf
      have e1 : b = a := congrArg Prod.fst h3
      have e2 : q = r := congrArg Prod.snd h3
      subst e1 e2
      obtain ⟨h4, h5⟩ := C.inv l b q hx
      exact ⟨h4, h5, hb⟩
    · rw [if_neg hb] at hf; cases hf
  cut a k h hk := bind_bad _ (C.cut a k h.1 hk)

/-- So many, one behind the other. -/
def takeN {α : Type} (take : List UInt8 → Rd α) : Nat → List UInt8 → Rd (List α)
  | 0, l => Sum.inl ([], l)
  | n + 1, l => bind (take l) fun a r => bind (takeN take n r) fun as q => Sum.inl (a :: as, q)
theorem takeN_back {α : Type} {ok : α → Prop} {put : α → List UInt8} {take : List UInt8 → Rd α} (C : Codec ok put take) : ∀ (xs : List α) (r : List UInt8), (∀ x ∈ xs, ok x) → takeN take xs.length (xs.flatMap put ++ r) = Sum.inl (xs, r)
  | [], r, _ => rfl
  | x :: xs, r, h => by
    show bind (take _) _ = _
    rw [List.flatMap_cons, List.append_assoc, bind_ok _ (C.back x _ (h x (by simp))), bind_ok _ (takeN_back C xs r fun y hy => h y (by simp [hy]))]
theorem takeN_inv {α : Type} {ok : α → Prop} {put : α → List UInt8} {take : List UInt8 → Rd α} (C : Codec ok put take) : ∀ (n : Nat) (l : List UInt8) (xs : List α) (r : List UInt8), takeN take n l = Sum.inl (xs, r) → l = xs.flatMap put ++ r ∧ xs.length = n ∧ ∀ x ∈ xs, ok x
  | 0, l, xs, r, h => by
    have h3 := Sum.inl.inj h
    have e1 : [] = xs := congrArg Prod.fst h3
    have e2 : l = r := congrArg Prod.snd h3
    subst e1 e2
    exact ⟨rfl, rfl, by simp⟩
  | n + 1, l, xs, r, h => by
    obtain ⟨a, q, hx, hf⟩ := bind_inv h
    obtain ⟨ys, t, hy, hg⟩ := bind_inv hf
    have h3 := Sum.inl.inj hg
    have e1 : a :: ys = xs := congrArg Prod.fst h3
    have e2 : t = r := congrArg Prod.snd h3
    subst e1 e2
    obtain ⟨h4, h5⟩ := C.inv l a q hx
    obtain ⟨h6, h7, h8⟩ := takeN_inv C n q ys t hy
    refine ⟨by rw [h4, h6, List.flatMap_cons, List.append_assoc], by rw [List.length_cons, h7], ?_⟩
    intro x hx
    rcases List.mem_cons.1 hx with rfl | hx
    · exact h5
    · exact h8 x hx
theorem takeN_cut {α : Type} {ok : α → Prop} {put : α → List UInt8} {take : List UInt8 → Rd α} (C : Codec ok put take) : ∀ (xs : List α) (k : Nat), (∀ x ∈ xs, ok x) → k < (xs.flatMap put).length → takeN take xs.length ((xs.flatMap put).take k) = Sum.inr 3
  | [], k, _, hk => by simp at hk
  | x :: xs, k, h, hk => by
    show bind (take _) _ = _
    rw [List.flatMap_cons] at hk ⊢
    rw [List.length_append] at hk
    by_cases h1 : k < (put x).length
    · rw [List.take_append_of_le_length (by omega)]
      exact bind_bad _ (C.cut x k (h x (by simp)) h1)
    · rw [List.take_append, List.take_of_length_le (by omega), bind_ok _ (C.back x _ (h x (by simp)))]
      exact bind_bad _ (takeN_cut C xs _ (fun y hy => h y (by simp [hy])) (by omega))
/-- A list with how many there are ahead, no more than most. -/
theorem Codec.counted {α : Type} {ok : α → Prop} {put : α → List UInt8} {take : List UInt8 → Rd α} (C : Codec ok put take) {most : Nat} (hm : most ≤ 1099511627776) :
    Codec (fun xs : List α => xs.length ≤ most ∧ ∀ x ∈ xs, ok x) (fun xs => N.putL xs.length ++ xs.flatMap put) (fun l => bind (N.takeL l) fun n r => if most < n then Sum.inr 4 else takeN take n r) where
  back xs r h := by
    rw [List.append_assoc, bind_ok _ (N.take_put (by omega) _), if_neg (by omega)]
    exact takeN_back C xs r h.2
  inv l xs r h := by
    obtain ⟨n, q, hx, hf⟩ := bind_inv h
    by_cases hn : most < n
    · rw [if_pos hn] at hf; cases hf
    · rw [if_neg hn] at hf
      obtain ⟨h4, h5, h6⟩ := takeN_inv C n q xs r hf
      exact ⟨by rw [(N.take_inv hx).1, h4, h5, List.append_assoc], by omega, h6⟩
  cut xs k h hk := by
    rw [List.length_append] at hk
    by_cases h1 : k < (N.putL xs.length).length
    · rw [List.take_append_of_le_length (by omega)]
      exact bind_bad _ (nums.cut xs.length k (by unfold numOk; omega) h1)
    · rw [List.take_append, List.take_of_length_le (by omega), bind_ok _ (N.take_put (by omega) _), if_neg (by omega)]
      exact takeN_cut C xs _ h.2 (by omega)
end Go.Proofs.Ytmfhipjceeijmaa.K
