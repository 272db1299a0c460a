/-
  Frames of the document's chapter 4, over lists of bytes: what is put, what is taken, rows, scans, and what follows. No program in this text.
-/
import Derived.Test.YtmfhipjceeijmaaNumSpec
import Derived.Test.YtmfhipjceeijmaaCrcSpec
namespace Go.Proofs.Ytmfhipjceeijmaa.F

theorem fixL_len (n : Nat) : (N.fixL n).length = 4 := rfl
theorem fix_of {s : List UInt8} (h : 4 ≤ s.length) : N.fixL (N.fixV s) = s.take 4 := by
  match s, h with
  | a :: b :: c :: d :: r, _ =>
    have ha := a.toNat_lt; have hb := b.toNat_lt; have hc := c.toNat_lt; have hd := d.toNat_lt
    have e0 : N.bt (a :: b :: c :: d :: r) 0 = a.toNat := rfl
    have e1 : N.bt (a :: b :: c :: d :: r) 1 = b.toNat := rfl
    have e2 : N.bt (a :: b :: c :: d :: r) 2 = c.toNat := rfl
    have e3 : N.bt (a :: b :: c :: d :: r) 3 = d.toNat := rfl
    unfold N.fixL N.fixV
    rw [e0, e1, e2, e3]
    rw [← N.u8_mk (c := a) (by omega), ← N.u8_mk (c := b) (by omega), ← N.u8_mk (c := c) (by omega), ← N.u8_mk (c := d) (by omega)]
    rfl
theorem fixV_take {s : List UInt8} (h : 4 ≤ s.length) : N.fixV (s.take 4) = N.fixV s := by
  match s, h with
  | a :: b :: c :: d :: r, _ => rfl

/-- A frame. -/
def sumOf (p : List UInt8) : Nat := C.upd 0 (N.fixL p.length ++ p)
theorem sumOf_lt (p : List UInt8) : sumOf p < 4294967296 := C.upd_lt (by omega) _
def frame (p : List UInt8) : List UInt8 := N.fixL p.length ++ (N.fixL (sumOf p) ++ p)
theorem frame_len (p : List UInt8) : (frame p).length = p.length + 8 := by simp [frame, fixL_len]; omega
def good (p : List UInt8) : Prop := 0 < p.length ∧ p.length ≤ 8000
instance (p : List UInt8) : Decidable (good p) := inferInstanceAs (Decidable (_ ∧ _))
/-- What is wrong with a payload: 0, if nothing is. -/
def code (p : List UInt8) : Nat := if p.length = 0 then 2 else if 8000 < p.length then 4 else 0
theorem code_good {p : List UInt8} (h : good p) : code p = 0 := by
  unfold good at h; unfold code; rw [if_neg (by omega), if_neg (by omega)]
theorem code_zero {p : List UInt8} (h : code p = 0) : good p := by
  unfold code at h; unfold good
  split at h
  · omega
  · split at h
    · omega
    · omega
theorem code_none {p : List UInt8} (h : p.length = 0) : code p = 2 := by unfold code; rw [if_pos h]
theorem code_long {p : List UInt8} (h : 8000 < p.length) : code p = 4 := by unfold code; rw [if_neg (by omega), if_pos h]

abbrev Tk : Type := Sum (List UInt8 × List UInt8) Nat
abbrev Tk.ok (p r : List UInt8) : Tk := Sum.inl (p, r)
abbrev Tk.bad (e : Nat) : Tk := Sum.inr e
def take (s : List UInt8) : Tk :=
  if s.length < 8 then .bad 3
  else if N.fixV s = 0 then .bad 2
  else if 8000 < N.fixV s then .bad 4
  else if s.length - 8 < N.fixV s then .bad 3
  else if C.upd 0 (s.take 4 ++ (s.drop 8).take (N.fixV s)) = N.fixV (s.drop 4) then .ok ((s.drop 8).take (N.fixV s)) ((s.drop 8).drop (N.fixV s))
  else .bad 5
theorem take_few {s : List UInt8} (h : s.length < 8) : take s = .bad 3 := by unfold take; rw [if_pos h]
theorem take_zero {s : List UInt8} (h : ¬ s.length < 8) (h0 : N.fixV s = 0) : take s = .bad 2 := by unfold take; rw [if_neg h, if_pos h0]
theorem take_long {s : List UInt8} (h : ¬ s.length < 8) (h1 : 8000 < N.fixV s) : take s = .bad 4 := by unfold take; rw [if_neg h, if_neg (by omega), if_pos h1]
theorem take_short {s : List UInt8} (h : ¬ s.length < 8) (h0 : N.fixV s ≠ 0) (h1 : ¬ 8000 < N.fixV s) (h2 : s.length - 8 < N.fixV s) : take s = .bad 3 := by
  unfold take; rw [if_neg h, if_neg h0, if_neg h1, if_pos h2]
theorem take_ok {s : List UInt8} (h : ¬ s.length < 8) (h0 : N.fixV s ≠ 0) (h1 : ¬ 8000 < N.fixV s) (h2 : ¬ s.length - 8 < N.fixV s) (h3 : C.upd 0 (s.take 4 ++ (s.drop 8).take (N.fixV s)) = N.fixV (s.drop 4)) :
    take s = .ok ((s.drop 8).take (N.fixV s)) ((s.drop 8).drop (N.fixV s)) := by
  unfold take; rw [if_neg h, if_neg h0, if_neg h1, if_neg h2, if_pos h3]
theorem take_sum {s : List UInt8} (h : ¬ s.length < 8) (h0 : N.fixV s ≠ 0) (h1 : ¬ 8000 < N.fixV s) (h2 : ¬ s.length - 8 < N.fixV s) (h3 : ¬ C.upd 0 (s.take 4 ++ (s.drop 8).take (N.fixV s)) = N.fixV (s.drop 4)) :
    take s = .bad 5 := by
  unfold take; rw [if_neg h, if_neg h0, if_neg h1, if_neg h2, if_neg h3]
theorem take_cases (s : List UInt8) : (∃ e, take s = .bad e ∧ 0 < e) ∨ (∃ p r, take s = .ok p r) := by
  unfold take
  repeat' split
  all_goals first
    | exact .inl ⟨_, rfl, by omega⟩
    | exact .inr ⟨_, _, rfl⟩

/-- The bytes of a frame's head. -/
theorem frame_fix {p : List UInt8} (h : p.length < 4294967296) (r : List UInt8) : N.fixV (frame p ++ r) = p.length := by
  unfold frame; rw [List.append_assoc]; exact (N.fix_back h _).1
theorem frame_four (p r : List UInt8) : (frame p ++ r).drop 4 = N.fixL (sumOf p) ++ (p ++ r) := by
  unfold frame; rw [List.append_assoc, List.append_assoc]; rfl
theorem frame_eight (p r : List UInt8) : (frame p ++ r).drop 8 = p ++ r := by
  unfold frame; rw [List.append_assoc, List.append_assoc]; rfl
theorem frame_head (p r : List UInt8) : (frame p ++ r).take 4 = N.fixL p.length := by
  unfold frame; rw [List.append_assoc]; rfl
theorem take_frame {p : List UInt8} (h : good p) (r : List UInt8) : take (frame p ++ r) = .ok p r := by
  have hl : (frame p ++ r).length = p.length + 8 + r.length := by rw [List.length_append, frame_len]
  have hf := frame_fix (p := p) (by have := h.2; omega) r
  have h1 := h.1
  have h2 := h.2
  have e := take_ok (s := frame p ++ r) (by omega) (by omega) (by omega) (by omega) (by
    rw [hf, frame_head, frame_eight, frame_four, List.take_left, (N.fix_back (sumOf_lt p) _).1]
    rfl)
  rw [e, hf, frame_eight, List.take_left, List.drop_left]
theorem take_inv {s p r : List UInt8} (h : take s = .ok p r) : s = frame p ++ r ∧ good p := by
  by_cases h8 : s.length < 8
  · rw [take_few h8] at h; cases h
  by_cases h0 : N.fixV s = 0
  · rw [take_zero h8 h0] at h; cases h
  by_cases h1 : 8000 < N.fixV s
  · rw [take_long h8 h1] at h; cases h
  by_cases h2 : s.length - 8 < N.fixV s
  · rw [take_short h8 h0 h1 h2] at h; cases h
  by_cases h3 : C.upd 0 (s.take 4 ++ (s.drop 8).take (N.fixV s)) = N.fixV (s.drop 4)
  · rw [take_ok h8 h0 h1 h2 h3] at h
    have hp : (s.drop 8).take (N.fixV s) = p := by injection h with h; injection h
    have hr : (s.drop 8).drop (N.fixV s) = r := by injection h with h; injection h
    have hl : p.length = N.fixV s := by rw [← hp, List.length_take, List.length_drop]; omega
    refine ⟨?_, by unfold good; omega⟩
    have hs : sumOf p = N.fixV (s.drop 4) := by
      unfold sumOf; rw [hl, fix_of (by omega), ← h3, hp]
    unfold frame
    rw [hs, hl, fix_of (by omega), fix_of (by rw [List.length_drop]; omega), ← hp, ← hr, List.append_assoc, List.append_assoc, List.take_append_drop]
    have e : s.drop 8 = (s.drop 4).drop 4 := by rw [List.drop_drop]
    rw [e, List.take_append_drop, List.take_append_drop]
  · rw [take_sum h8 h0 h1 h2 h3] at h; cases h
/-- What a cut frame, or what is shorter than a head, is. -/
theorem take_cut {p : List UInt8} (h : good p) (r : List UInt8) {k : Nat} (hk : k < p.length + 8) : take ((frame p ++ r).take k) = .bad 3 := by
  have hl : (frame p ++ r).length = p.length + 8 + r.length := by rw [List.length_append, frame_len]
  have hkl : ((frame p ++ r).take k).length = k := by rw [List.length_take]; omega
  by_cases h8 : k < 8
  · exact take_few (by omega)
  · have e : N.fixV ((frame p ++ r).take k) = p.length := by
      rw [← fixV_take (by omega), List.take_take, show min 4 k = 4 by omega, fixV_take (by omega)]
      exact frame_fix (by have := h.2; omega) r
    have h1 := h.1
    have h2 := h.2
    exact take_short (by omega) (by omega) (by omega) (by omega)

/-- The payloads of the frames that bytes begin with, and how many bytes they have. -/
def scanF : Nat → List UInt8 → List (List UInt8) × Nat
  | 0, _ => ([], 0)
  | f + 1, s =>
    match take s with
    | Sum.inl (p, r) => (p :: (scanF f r).1, p.length + 8 + (scanF f r).2)
    | Sum.inr _ => ([], 0)
def scan (s : List UInt8) : List (List UInt8) × Nat := scanF s.length s
theorem scanF_bad {s : List UInt8} {e : Nat} (h : take s = .bad e) : ∀ f, scanF f s = ([], 0)
  | 0 => rfl
  | f + 1 => by simp only [scanF, h, Tk.bad]
theorem scanF_ok {s p r : List UInt8} (h : take s = .ok p r) (f : Nat) : scanF (f + 1) s = (p :: (scanF f r).1, p.length + 8 + (scanF f r).2) := by simp only [scanF, h, Tk.ok]
theorem scanF_eq : ∀ (f g : Nat) (s : List UInt8), s.length ≤ f → s.length ≤ g → scanF f s = scanF g s
  | 0, g, s, hf, _ => by
    have : take s = .bad 3 := take_few (by omega)
    rw [scanF_bad this g]; rfl
  | f + 1, 0, s, _, hg => by
    have : take s = .bad 3 := take_few (by omega)
    rw [scanF_bad this]; rfl
  | f + 1, g + 1, s, hf, hg => by
    rcases take_cases s with ⟨e, h, _⟩ | ⟨p, r, h⟩
    · rw [scanF_bad h, scanF_bad h]
    · have hi := take_inv h
      have hl : s.length = p.length + 8 + r.length := by rw [hi.1, List.length_append, frame_len]
      rw [scanF_ok h, scanF_ok h, scanF_eq f g r (by omega) (by omega)]
theorem scan_bad {s : List UInt8} {e : Nat} (h : take s = .bad e) : scan s = ([], 0) := scanF_bad h _
theorem scan_ok {s p r : List UInt8} (h : take s = .ok p r) : scan s = (p :: (scan r).1, p.length + 8 + (scan r).2) := by
  have hi := take_inv h
  have hl : s.length = p.length + 8 + r.length := by rw [hi.1, List.length_append, frame_len]
  unfold scan
  rw [show s.length = (p.length + 7 + r.length) + 1 by omega, scanF_ok h, scanF_eq (p.length + 7 + r.length) r.length r (by omega) (by omega)]
theorem scan_frame {p : List UInt8} (h : good p) (r : List UInt8) : scan (frame p ++ r) = (p :: (scan r).1, p.length + 8 + (scan r).2) := scan_ok (take_frame h r)

/-- Rows. -/
def frames (l : List (List UInt8)) : List UInt8 := l.flatMap frame
theorem frames_nil : frames [] = [] := rfl
theorem frames_cons (p : List UInt8) (l : List (List UInt8)) : frames (p :: l) = frame p ++ frames l := by unfold frames; rw [List.flatMap_cons]
theorem frames_append (a b : List (List UInt8)) : frames (a ++ b) = frames a ++ frames b := by unfold frames; rw [List.flatMap_append]
theorem frames_step {l : List (List UInt8)} {k : Nat} (h : k < l.length) : frames (l.take (k + 1)) = frames (l.take k) ++ frame l[k] := by
  rw [List.take_succ_eq_append_getElem h, frames_append, frames_cons, frames_nil, List.append_nil]
/-- The first error of a row: 0, if there is none. -/
def codes (l : List (List UInt8)) : Nat :=
  match l with
  | [] => 0
  | p :: r => if code p = 0 then codes r else code p
theorem codes_zero : ∀ {l : List (List UInt8)}, codes l = 0 → ∀ p ∈ l, good p
  | [], _, p, hp => by simp at hp
  | q :: r, h, p, hp => by
    unfold codes at h
    by_cases hq : code q = 0
    · rw [if_pos hq] at h
      rcases List.mem_cons.1 hp with rfl | hp
      · exact code_zero hq
      · exact codes_zero h p hp
    · rw [if_neg hq] at h; exact absurd h hq
theorem codes_good : ∀ {l : List (List UInt8)}, (∀ p ∈ l, good p) → codes l = 0
  | [], _ => rfl
  | q :: r, h => by
    unfold codes
    rw [if_pos (code_good (h q (by simp)))]
    exact codes_good fun p hp => h p (by simp [hp])
/-- The first that is wrong stands behind those that are right. -/
theorem codes_at {l : List (List UInt8)} {k : Nat} (hk : k < l.length) (h : ∀ p ∈ l.take k, good p) (hb : code l[k] ≠ 0) : codes l = code l[k] := by
  induction l generalizing k with
  | nil => simp at hk
  | cons q r ih =>
    cases k with
    | zero =>
      simp only [List.getElem_cons_zero] at hb ⊢
      unfold codes; rw [if_neg hb]
    | succ k =>
      simp only [List.getElem_cons_succ] at hb ⊢
      unfold codes
      rw [if_pos (code_good (h q (by simp)))]
      exact ih (by simpa using hk) (fun p hp => h p (by simp [hp])) hb
theorem codes_pos {q : List UInt8} (h : code q = 0) (r : List (List UInt8)) : codes (q :: r) = codes r := by
  show (if code q = 0 then codes r else code q) = _
  rw [if_pos h]
theorem codes_neg {q : List UInt8} (h : ¬ code q = 0) (r : List (List UInt8)) : codes (q :: r) = code q := by
  show (if code q = 0 then codes r else code q) = _
  rw [if_neg h]
theorem codes_append (a b : List (List UInt8)) : codes (a ++ b) = if codes a = 0 then codes b else codes a := by
  induction a with
  | nil => rfl
  | cons q r ih =>
    rw [List.cons_append]
    by_cases hq : code q = 0
    · rw [codes_pos hq, codes_pos hq, ih]
    · rw [codes_neg hq, codes_neg hq, if_neg hq]

/-- Scan of a row, with bytes behind that are no frame. -/
theorem scan_row {more : List UInt8} {e : Nat} (hm : take more = .bad e) : ∀ {l : List (List UInt8)}, (∀ p ∈ l, good p) → scan (frames l ++ more) = (l, (frames l).length)
  | [], _ => by rw [frames_nil, List.nil_append, scan_bad hm]; rfl
  | q :: r, h => by
    rw [frames_cons, List.append_assoc, scan_frame (h q (by simp)), scan_row hm fun p hp => h p (by simp [hp]), List.length_append, frame_len]
theorem scan_row_all {l : List (List UInt8)} (h : ∀ p ∈ l, good p) : scan (frames l) = (l, (frames l).length) := by
  have := scan_row (more := []) (take_few (by simp)) h
  rwa [List.append_nil] at this
theorem frames_len : ∀ (l : List (List UInt8)), (frames l).length = (l.map fun p => p.length + 8).sum
  | [] => rfl
  | q :: r => by rw [frames_cons, List.length_append, frame_len, frames_len r, List.map_cons, List.sum_cons]

/-- Of a row that is cut: just the payloads whose frames are whole. -/
theorem scan_cut {l : List (List UInt8)} {cut k : Nat} (h : ∀ p ∈ l, good p) (hk : k ≤ l.length) (hle : (frames (l.take k)).length ≤ cut)
    (hnext : k = l.length ∨ ∃ hk2 : k < l.length, cut < (frames (l.take k)).length + (l[k].length + 8)) : scan ((frames l).take cut) = (l.take k, (frames (l.take k)).length) := by
  induction l generalizing k cut with
  | nil =>
    simp only [List.take_nil, frames_nil]
    exact scan_bad (take_few (by simp))
  | cons q r ih =>
    have hq := h q (by simp)
    cases k with
    | zero =>
      rcases hnext with h0 | ⟨_, hc⟩
      · simp at h0
      · simp only [List.take_zero, frames_nil, List.length_nil, Nat.zero_add, List.getElem_cons_zero] at hc ⊢
        rw [frames_cons]
        exact scan_bad (take_cut hq _ hc)
    | succ k =>
      simp only [List.take_succ_cons, frames_cons, List.length_append, frame_len] at hle hnext ⊢
      have e : (frame q ++ frames r).take cut = frame q ++ (frames r).take (cut - (q.length + 8)) := by
        rw [List.take_append, frame_len, List.take_of_length_le (by rw [frame_len]; omega)]
      rw [e, scan_frame hq, ih (cut := cut - (q.length + 8)) (k := k) (fun p hp => h p (by simp [hp])) (by simpa using hk) (by omega) (by
        rcases hnext with h0 | ⟨h1, h2⟩
        · exact .inl (by simpa using h0)
        · refine .inr ⟨by simpa using h1, ?_⟩
          simp only [List.getElem_cons_succ] at h2
          omega)]

/-- Turned bits behind the sum. -/
theorem val_append : ∀ (a b : List UInt8), C.val (a ++ b) = C.val a ^^^ 2 ^ (8 * a.length) * C.val b
  | [], b => by simp [C.val]
  | x :: a, b => by
    show x.toNat ^^^ 2 ^ 8 * C.val (a ++ b) = (x.toNat ^^^ 2 ^ 8 * C.val a) ^^^ 2 ^ (8 * (a.length + 1)) * C.val b
    rw [val_append a b, C.mul_xor, ← Nat.xor_assoc, ← Nat.mul_assoc, ← Nat.pow_add, show 8 + 8 * a.length = 8 * (a.length + 1) by omega]
theorem pow_split {n a b x y : Nat} (ha : a < 2 ^ n) (hb : b < 2 ^ n) (h : a ^^^ 2 ^ n * x = b ^^^ 2 ^ n * y) : a = b ∧ x = y := by
  have key : ∀ {c z : Nat}, c < 2 ^ n → (c ^^^ 2 ^ n * z) % 2 ^ n = c ∧ (c ^^^ 2 ^ n * z) / 2 ^ n = z := by
    intro c z hc
    constructor
    · rw [Nat.xor_mod_two_pow, Nat.mul_mod_right, Nat.xor_zero]; exact Nat.mod_eq_of_lt hc
    · rw [Nat.xor_div_two_pow, Nat.mul_div_cancel_left _ (Nat.two_pow_pos n), Nat.div_eq_of_lt hc, Nat.zero_xor]
  have h1 := key (z := x) ha
  have h2 := key (z := y) hb
  rw [h] at h1
  exact ⟨h1.1.symm.trans h2.1, h1.2.symm.trans h2.2⟩
theorem turn_parts {s t : List UInt8} {a m : Nat} (hl : t.length = s.length) (h8 : 8 ≤ s.length) (ha : 64 ≤ a) (hv : C.val t = C.val s ^^^ 2 ^ a * m) :
    t.take 8 = s.take 8 ∧ C.val (t.drop 8) = C.val (s.drop 8) ^^^ 2 ^ (a - 64) * m := by
  have e1 : C.val t = C.val (t.take 8) ^^^ 2 ^ 64 * C.val (t.drop 8) := by
    have := val_append (t.take 8) (t.drop 8)
    rwa [List.take_append_drop, List.length_take, show min 8 t.length = 8 by omega] at this
  have e2 : C.val s = C.val (s.take 8) ^^^ 2 ^ 64 * C.val (s.drop 8) := by
    have := val_append (s.take 8) (s.drop 8)
    rwa [List.take_append_drop, List.length_take, show min 8 s.length = 8 by omega] at this
  have l1 : (t.take 8).length = 8 := by rw [List.length_take]; omega
  have l2 : (s.take 8).length = 8 := by rw [List.length_take]; omega
  have b1 := C.val_lt (t.take 8)
  have b2 := C.val_lt (s.take 8)
  rw [l1] at b1
  rw [l2] at b2
  rw [e1, e2, show a = 64 + (a - 64) by omega, Nat.pow_add, Nat.mul_assoc, Nat.xor_assoc, ← C.mul_xor] at hv
  have hp := pow_split (n := 64) b1 b2 hv
  refine ⟨C.val_inj (by omega) hp.1, ?_⟩
  rw [hp.2]
theorem turned {p t : List UInt8} {a m : Nat} (hp : good p) (hl : t.length = (frame p).length) (hm : m < 4294967296) (ha : 64 ≤ a) (ha2 : a ≤ 8 * (frame p).length) (hv : C.val t = C.val (frame p) ^^^ 2 ^ a * m) (hne : t ≠ frame p) :
    take t = .bad 5 := by
  have hfl := frame_len p
  have h1 := hp.1
  have h2 := hp.2
  obtain ⟨hh, hd⟩ := turn_parts hl (by omega) ha hv
  have d8 : (frame p).drop 8 = p := by have := frame_eight p []; rwa [List.append_nil, List.append_nil] at this
  have h4 : t.take 4 = N.fixL p.length := by
    have e : t.take 4 = (t.take 8).take 4 := by rw [List.take_take]; rfl
    rw [e, hh, List.take_take]
    have := frame_head p []
    rwa [List.append_nil] at this
  have hf : N.fixV t = p.length := by
    rw [← fixV_take (by omega), h4]
    have := (N.fix_back (n := p.length) (by omega) []).1
    rwa [List.append_nil] at this
  have hs4 : N.fixV (t.drop 4) = sumOf p := by
    have e : (t.drop 4).take 4 = (t.take 8).drop 4 := by rw [List.drop_take]
    rw [← fixV_take (by rw [List.length_drop]; omega), e, hh, List.drop_take, show 8 - 4 = 4 from rfl, fixV_take (by rw [List.length_drop]; omega)]
    have h5 := frame_four p []
    rw [List.append_nil, List.append_nil] at h5
    rw [h5]
    exact (N.fix_back (sumOf_lt p) _).1
  have ht8 : (t.drop 8).take (N.fixV t) = t.drop 8 := List.take_of_length_le (by rw [List.length_drop]; omega)
  refine take_sum (by omega) (by omega) (by omega) (by omega) ?_
  rw [ht8, h4, hs4]
  intro he
  have hv2 : C.val (N.fixL p.length ++ t.drop 8) = C.val (N.fixL p.length ++ p) ^^^ 2 ^ (a - 32) * m := by
    rw [val_append, val_append, fixL_len, hd, d8, C.mul_xor, ← Nat.xor_assoc, ← Nat.mul_assoc, ← Nat.pow_add, show 8 * 4 + (a - 64) = a - 32 by omega]
  have hfin := (C.finds (c := 0) (s := N.fixL p.length ++ p) (t := N.fixL p.length ++ t.drop 8) (by simp [fixL_len]; omega) hm (by rw [List.length_append, fixL_len]; omega) hv2).2 he.symm
  have h6 : t.drop 8 = p := List.append_cancel_left hfin
  apply hne
  rw [← List.take_append_drop 8 t, hh, h6]
  have := List.take_append_drop 8 (frame p)
  rwa [d8] at this
end Go.Proofs.Ytmfhipjceeijmaa.F
