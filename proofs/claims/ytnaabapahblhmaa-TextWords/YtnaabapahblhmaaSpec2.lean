/-
  Plain functions of texts, as lists of bytes: what the functions of package text tell of them, and how each goes on rune by rune. No program in this text.
-/
import Derived.Test.YtnaabapahblhmaaSpec
namespace Go.Proofs.Ytnaabapahblhmaa.T

theorem cons_of {l : List UInt8} (h : l ≠ []) : ∃ c r, l = c :: r ∧ bt l 0 = c.toNat := by
  match l, h with
  | c :: r, _ => exact ⟨c, r, rfl, by simp [bt]⟩

/-- A bytewise fold that passes over bytes from 128 on passes over a rune's whole. -/
theorem pass {f : List UInt8 → Nat → Prop} (hf : ∀ c r n, 128 ≤ c.toNat → f r n → f (c :: r) (n + 1)) :
    ∀ (w : Nat) (m : List UInt8) (n : Nat), w ≤ m.length → (∀ i, i < w → 128 ≤ bt m i) → f (m.drop w) n → f m (n + w)
  | 0, m, n, _, _, h => by simpa using h
  | w + 1, [], n, hl, _, _ => by simp at hl
  | w + 1, c :: r, n, hl, hc, h => by
    have h0 := hc 0 (by omega)
    simp [bt] at h0
    have := pass hf w r n (by simpa using hl) (fun i hi => by have := hc (i + 1) (by omega); simpa [bt] using this) (by simpa using h)
    exact hf c r (n + w) h0 this

/-! ### blanks ahead -/
def gapB (c : UInt8) : Bool := c == 32 || c == 9
def gap (l : List UInt8) : Nat := (l.takeWhile gapB).length
theorem gap_le (l : List UInt8) : gap l ≤ l.length := by
  unfold gap; exact (List.takeWhile_sublist _).length_le

theorem u8_eq {c : UInt8} {n : Nat} (hn : n < 256) : c = UInt8.ofNat n ↔ c.toNat = n := by
  constructor
  · intro h; subst h; simp; omega
  · intro h; apply UInt8.toNat_inj.1; simp; omega

theorem gap_go {m : List UInt8} (h : m ≠ []) (hr : raw m = 32 ∨ raw m = 9) : wid m = 1 ∧ gap m = gap (m.drop 1) + 1 := by
  obtain ⟨c, r, rfl, h0⟩ := cons_of h
  have hb := c.toNat_lt
  rcases kind (c :: r) with ⟨a, _, b, d⟩ | ⟨_, _, b, d⟩ | ⟨_, _, b, d, _⟩
  · refine ⟨d, ?_⟩
    have hc : gapB c = true := by
      rw [b, h0] at hr
      simp only [gapB, Bool.or_eq_true, beq_iff_eq]
      rcases hr with hr | hr
      · exact .inl ((u8_eq (n := 32) (by omega)).2 (by omega))
      · exact .inr ((u8_eq (n := 9) (by omega)).2 (by omega))
    simp [gap, hc]
  · omega
  · omega
theorem gap_stop {m : List UInt8} (h : m ≠ []) (hr : ¬ (raw m = 32 ∨ raw m = 9)) : gap m = 0 := by
  obtain ⟨c, r, rfl, h0⟩ := cons_of h
  have hc : gapB c = false := by
    simp only [gapB, Bool.or_eq_false_iff, beq_eq_false_iff_ne]
    rcases kind (c :: r) with ⟨a, _, b, d⟩ | ⟨a, _, b, d⟩ | ⟨a, _, b, d, _⟩
    · rw [b, h0] at hr
      exact ⟨fun e => hr (.inl (by subst e; rfl)), fun e => hr (.inr (by subst e; rfl))⟩
    · rw [h0] at a; exact ⟨fun e => by subst e; simp at a, fun e => by subst e; simp at a⟩
    · rw [h0] at a; exact ⟨fun e => by subst e; simp at a, fun e => by subst e; simp at a⟩
  simp [gap, hc]

/-! ### a word that is not quoted -/
def plainLen : List UInt8 → Option Nat
  | [] => some 0
  | c :: r => if c = 34 then none else if gapB c then some 0 else (plainLen r).map (· + 1)

theorem plain_quote {m : List UInt8} (h : m ≠ []) (hr : raw m = 34) : plainLen m = none := by
  obtain ⟨c, r, rfl, h0⟩ := cons_of h
  rcases kind (c :: r) with ⟨a, _, b, d⟩ | ⟨_, _, b, d⟩ | ⟨_, _, b, d, _⟩
  · have : c = 34 := (u8_eq (n := 34) (by omega)).2 (by omega)
    simp [plainLen, this]
  · omega
  · omega
theorem plain_gap {m : List UInt8} (h : m ≠ []) (hr : raw m = 32 ∨ raw m = 9) : plainLen m = some 0 := by
  obtain ⟨c, r, rfl, h0⟩ := cons_of h
  rcases kind (c :: r) with ⟨a, _, b, d⟩ | ⟨_, _, b, d⟩ | ⟨_, _, b, d, _⟩
  · rw [b, h0] at hr
    have hc : c = 32 ∨ c = 9 := by
      rcases hr with hr | hr
      · exact .inl ((u8_eq (n := 32) (by omega)).2 (by omega))
      · exact .inr ((u8_eq (n := 9) (by omega)).2 (by omega))
    rcases hc with rfl | rfl <;> simp [plainLen, gapB]
  · omega
  · omega
theorem plain_go {m : List UInt8} (h : m ≠ []) (hq : raw m ≠ 34) (hr : ¬ (raw m = 32 ∨ raw m = 9)) : plainLen m = (plainLen (m.drop (wid m))).map (· + wid m) := by
  have hw := wid_le h
  rcases kind m with ⟨a, _, b, d⟩ | ⟨a, _, b, d⟩ | ⟨a, _, b, d, e⟩
  · obtain ⟨c, r, rfl, h0⟩ := cons_of h
    rw [b, h0] at hq hr
    have h1 : ¬ c = 34 := fun e => hq (by subst e; rfl)
    have h2 : gapB c = false := by
      simp only [gapB, Bool.or_eq_false_iff, beq_eq_false_iff_ne]
      exact ⟨fun e => hr (.inl (by subst e; rfl)), fun e => hr (.inr (by subst e; rfl))⟩
    rw [d]; simp [plainLen, h1, h2]
  · obtain ⟨c, r, rfl, h0⟩ := cons_of h
    rw [h0] at a
    have h1 : ¬ c = 34 := fun e => by subst e; simp at a
    have h2 : gapB c = false := by
      simp only [gapB, Bool.or_eq_false_iff, beq_eq_false_iff_ne]
      exact ⟨fun e => by subst e; simp at a, fun e => by subst e; simp at a⟩
    rw [d]; simp [plainLen, h1, h2]
  · have := pass (f := fun l n => plainLen l = (plainLen (m.drop (wid m))).map (· + n)) (fun c r n hc hh => by
      have h1 : ¬ c = 34 := fun e => by subst e; simp at hc
      have h2 : gapB c = false := by
        simp only [gapB, Bool.or_eq_false_iff, beq_eq_false_iff_ne]
        exact ⟨fun e => by subst e; simp at hc, fun e => by subst e; simp at hc⟩
      simp [plainLen, h1, h2, hh, Option.map_map]; rfl) (wid m) m 0 hw e (by simp)
    simpa using this

theorem plain_le : ∀ (l : List UInt8) (n : Nat), plainLen l = some n → n ≤ l.length
  | [], n, h => by simp [plainLen] at h; omega
  | c :: r, n, h => by
    simp only [plainLen] at h
    split at h
    · cases h
    · split at h
      · simp at h; omega
      · rw [Option.map_eq_some_iff] at h
        obtain ⟨k, hk, rfl⟩ := h
        have := plain_le r k hk
        simp; omega

/-! ### a quoted word, behind its first quote -/
def qLen : Bool → List UInt8 → Option Nat
  | _, [] => none
  | true, _ :: r => (qLen false r).map (· + 1)
  | false, c :: r => if c = 92 then (qLen true r).map (· + 1) else if c = 34 then some 1 else (qLen false r).map (· + 1)

theorem qLen_esc {m : List UInt8} (h : m ≠ []) : qLen true m = (qLen false (m.drop (wid m))).map (· + wid m) := by
  have hw := wid_le h
  rcases kind m with ⟨a, _, b, d⟩ | ⟨a, _, b, d⟩ | ⟨a, _, b, d, e⟩
  · obtain ⟨c, r, rfl, h0⟩ := cons_of h
    rw [d]; simp [qLen]
  · obtain ⟨c, r, rfl, h0⟩ := cons_of h
    rw [d]; simp [qLen]
  · obtain ⟨c, r, rfl, h0⟩ := cons_of h
    have := pass (f := fun l n => qLen false l = (qLen false (r.drop (wid (c :: r) - 1))).map (· + n)) (fun c r n hc hh => by
      have h1 : ¬ c = 34 := fun e => by subst e; simp at hc
      have h2 : ¬ c = 92 := fun e => by subst e; simp at hc
      simp [qLen, h1, h2, hh, Option.map_map]; rfl) (wid (c :: r) - 1) r 0 (by simp at hw; omega) (fun i hi => by have := e (i + 1) (by omega); simpa [bt] using this) (by simp)
    obtain ⟨k, hk⟩ : ∃ k, wid (c :: r) = k + 1 := ⟨wid (c :: r) - 1, by omega⟩
    rw [hk] at this ⊢
    simp [qLen] at this ⊢
    rw [this, Option.map_map]; rfl
theorem qLen_back {m : List UInt8} (h : m ≠ []) (hr : raw m = 92) : wid m = 1 ∧ qLen false m = (qLen true (m.drop 1)).map (· + 1) := by
  obtain ⟨c, r, rfl, h0⟩ := cons_of h
  rcases kind (c :: r) with ⟨a, _, b, d⟩ | ⟨_, _, b, d⟩ | ⟨_, _, b, d, _⟩
  · have : c = 92 := (u8_eq (n := 92) (by omega)).2 (by omega)
    exact ⟨d, by simp [qLen, this]⟩
  · omega
  · omega
theorem qLen_end {m : List UInt8} (h : m ≠ []) (hr : raw m = 34) : wid m = 1 ∧ qLen false m = some 1 := by
  obtain ⟨c, r, rfl, h0⟩ := cons_of h
  rcases kind (c :: r) with ⟨a, _, b, d⟩ | ⟨_, _, b, d⟩ | ⟨_, _, b, d, _⟩
  · have : c = 34 := (u8_eq (n := 34) (by omega)).2 (by omega)
    exact ⟨d, by simp [qLen, this]⟩
  · omega
  · omega
theorem qLen_go {m : List UInt8} (h : m ≠ []) (hq : raw m ≠ 34) (hr : raw m ≠ 92) : qLen false m = (qLen false (m.drop (wid m))).map (· + wid m) := by
  have hw := wid_le h
  rcases kind m with ⟨a, _, b, d⟩ | ⟨a, _, b, d⟩ | ⟨a, _, b, d, e⟩
  · obtain ⟨c, r, rfl, h0⟩ := cons_of h
    rw [b, h0] at hq hr
    have h1 : ¬ c = 34 := fun e => hq (by subst e; rfl)
    have h2 : ¬ c = 92 := fun e => hr (by subst e; rfl)
    rw [d]; simp [qLen, h1, h2]
  · obtain ⟨c, r, rfl, h0⟩ := cons_of h
    rw [h0] at a
    have h1 : ¬ c = 34 := fun e => by subst e; simp at a
    have h2 : ¬ c = 92 := fun e => by subst e; simp at a
    rw [d]; simp [qLen, h1, h2]
  · have := pass (f := fun l n => qLen false l = (qLen false (m.drop (wid m))).map (· + n)) (fun c r n hc hh => by
      have h1 : ¬ c = 34 := fun e => by subst e; simp at hc
      have h2 : ¬ c = 92 := fun e => by subst e; simp at hc
      simp [qLen, h1, h2, hh, Option.map_map]; rfl) (wid m) m 0 hw e (by simp)
    simpa using this
theorem qLen_le : ∀ (l : List UInt8) (b : Bool) (n : Nat), qLen b l = some n → 1 ≤ n ∧ n ≤ l.length
  | [], b, n, h => by cases b <;> simp [qLen] at h
  | c :: r, true, n, h => by
    simp only [qLen, Option.map_eq_some_iff] at h
    obtain ⟨k, hk, rfl⟩ := h
    have := qLen_le r false k hk
    simp; omega
  | c :: r, false, n, h => by
    simp only [qLen] at h
    split at h
    · rw [Option.map_eq_some_iff] at h
      obtain ⟨k, hk, rfl⟩ := h
      have := qLen_le r true k hk
      simp; omega
    · split at h
      · simp at h; simp; omega
      · rw [Option.map_eq_some_iff] at h
        obtain ⟨k, hk, rfl⟩ := h
        have := qLen_le r false k hk
        simp; omega

/-! ### rune by rune -/
def scanF {α : Type} (g : List UInt8 → List α) : Nat → List UInt8 → List α
  | 0, _ => []
  | f + 1, l => if l = [] then [] else g l ++ scanF g f (l.drop (wid l))
def scan {α : Type} (g : List UInt8 → List α) (l : List UInt8) : List α := scanF g l.length l

theorem scanF_nil {α : Type} (g : List UInt8 → List α) (f : Nat) : scanF g f [] = [] := by cases f <;> simp [scanF]
theorem scanF_eq {α : Type} (g : List UInt8 → List α) : ∀ (f h : Nat) (l : List UInt8), l.length ≤ f → l.length ≤ h → scanF g f l = scanF g h l
  | 0, h, l, a, _ => by have : l = [] := List.length_eq_zero_iff.1 (by omega); subst this; rw [scanF_nil, scanF_nil]
  | f + 1, 0, l, _, b => by have : l = [] := List.length_eq_zero_iff.1 (by omega); subst this; rw [scanF_nil, scanF_nil]
  | f + 1, h + 1, l, a, b => by
    simp only [scanF]
    split
    · rfl
    · have := wid_pos l
      rw [scanF_eq g f h (l.drop (wid l)) (by simp; omega) (by simp; omega)]
theorem scan_nil {α : Type} (g : List UInt8 → List α) : scan g [] = [] := rfl
theorem scan_cons {α : Type} (g : List UInt8 → List α) {l : List UInt8} (h : l ≠ []) : scan g l = g l ++ scan g (l.drop (wid l)) := by
  have := len_pos h
  have hw := wid_pos l
  obtain ⟨k, hk⟩ : ∃ k, l.length = k + 1 := ⟨l.length - 1, by omega⟩
  unfold scan
  rw [hk, scanF, if_neg h]
  rw [scanF_eq g k (l.drop (wid l)).length (l.drop (wid l)) (by simp; omega) (Nat.le_refl _)]

def nums (l : List UInt8) : List Int := scan (fun m => [num m]) l
def raws (l : List UInt8) : List Int := scan (fun m => [raw m]) l
theorem nums_cons {l : List UInt8} (h : l ≠ []) : nums l = num l :: nums (l.drop (wid l)) := by simp [nums, scan_cons _ h]
theorem raws_cons {l : List UInt8} (h : l ≠ []) : raws l = raw l :: raws (l.drop (wid l)) := by simp [raws, scan_cons _ h]
theorem drop_ne {s : List UInt8} {pos : Nat} (h : pos < s.length) : s.drop pos ≠ [] := by
  intro e
  have := congrArg List.length e
  simp at this; omega
theorem drop_wid {s : List UInt8} {pos : Nat} (h : pos < s.length) : pos + wid (s.drop pos) ≤ s.length := by
  have := wid_le (drop_ne h)
  simp at this; omega
end Go.Proofs.Ytnaabapahblhmaa.T
