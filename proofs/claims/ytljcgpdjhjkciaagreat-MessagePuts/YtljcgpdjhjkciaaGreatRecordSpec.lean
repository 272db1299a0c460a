/-
  Entries of the document's chapter 6, over lists of bytes: what is right, their bytes, rows of them, what follows, marks, and where two logs part. No program in this text.
-/
import Derived.Test.YtljcgpdjhjkciaaGreatEventMore
namespace Go.Proofs.YtljcgpdjhjkciaaGreat.R
open K

structure En where
  pos : Int
  epoch : Int
  b : E.Bat
def large : Int := 274877906944
def right (e : En) : Bool := decide (1 ≤ e.pos) && (decide (e.pos ≤ large) && (decide (1 ≤ e.epoch) && (decide (e.epoch ≤ large) && decide (E.fits e.b = 0))))
theorem right_iff {e : En} : right e = true ↔ 1 ≤ e.pos ∧ e.pos ≤ large ∧ 1 ≤ e.epoch ∧ e.epoch ≤ large ∧ E.fits e.b = 0 := by
  unfold right; simp only [Bool.and_eq_true, decide_eq_true_eq]
def bytes (e : En) : List UInt8 := N.putL (N.held e.pos) ++ (N.putL (N.held e.epoch) ++ E.bytes e.b)
def putEn (e : En) : List UInt8 := if right e = true then bytes e else []
theorem putEn_ok {e : En} (h : right e = true) : putEn e = bytes e := by unfold putEn; rw [if_pos h]
theorem putEn_bad {e : En} (h : right e = false) : putEn e = [] := by unfold putEn; rw [if_neg (by rw [h]; decide)]
theorem bytes_pos (e : En) : 0 < (bytes e).length := by
  have := N.putL_pos (N.held e.pos)
  unfold bytes
  rw [List.length_append]
  omega
theorem bytes_len {e : En} (h : right e = true) : (bytes e).length ≤ 20012 := by
  have h1 := N.putL_len6 (N.held_le e.pos)
  have h2 := N.putL_len6 (N.held_le e.epoch)
  have h3 := E.bytes_len (right_iff.1 h).2.2.2.2
  unfold bytes
  simp only [List.length_append]
  omega
theorem putEn_nil {e : En} : putEn e = [] ↔ right e = false := by
  cases h : right e
  · simp [putEn_bad h]
  · rw [putEn_ok h]
    have := bytes_pos e
    constructor
    · intro h2; rw [h2] at this; simp at this
    · intro h2; cases h2
def takeEn (l : List UInt8) : Rd En := bind (N.takeL l) fun p r1 => bind (N.takeL r1) fun q r2 => bind (E.takeBat r2) fun b r3 => if right ⟨p, q, b⟩ = true then Sum.inl (⟨p, q, b⟩, r3) else Sum.inr 2
def enOk (e : En) : Prop := intOk e.pos ∧ intOk e.epoch ∧ E.batOk e.b ∧ decide (E.fits e.b = 0) = true
abbrev Tup : Type := Int × Int × E.Bat
theorem enC : Codec (fun e => enOk e ∧ right e = true) bytes takeEn := by
  have C0 := ints.pair (ints.pair E.batC)
  have C1 := (C0.map (fun t : Tup => (⟨t.1, t.2.1, t.2.2⟩ : En)) (fun e => (e.pos, e.epoch, e.b)) (ok' := enOk) (fun a h => ⟨rfl, h⟩) (fun b h => ⟨rfl, h⟩)).only right 2
  have e : takeEn = fun l => bind (bind (bind (bind (N.takeL l) fun n r => Sum.inl ((n : Int), r)) fun a r => bind (bind (bind (N.takeL r) fun n r => Sum.inl ((n : Int), r)) fun a r => bind (E.takeBat r) fun b q => Sum.inl ((a, b), q)) fun b q => Sum.inl ((a, b), q)) fun a r => Sum.inl ((⟨a.1, a.2.1, a.2.2⟩ : En), r)) fun a r => if right a = true then Sum.inl (a, r) else Sum.inr 2 := by
    funext l
    simp only [E.bind_assoc, E.bind_pure]
    rfl
  rw [e]
  exact C1
theorem en_ok {e : En} (h : right e = true) : enOk e ∧ right e = true := by
  obtain ⟨h1, h2, h3, h4, h5⟩ := right_iff.1 h
  have hl : large = 274877906944 := rfl
  refine ⟨⟨?_, ?_, E.bat_ok h5⟩, h⟩
  · unfold intOk; omega
  · unfold intOk; omega
theorem take_put {e : En} (h : right e = true) (r : List UInt8) : takeEn (bytes e ++ r) = Sum.inl (e, r) := enC.back e r (en_ok h)
theorem take_inv {l r : List UInt8} {e : En} (h : takeEn l = Sum.inl (e, r)) : l = bytes e ++ r ∧ right e = true := by
  obtain ⟨h1, h2⟩ := enC.inv l e r h
  exact ⟨h1, h2.2⟩
theorem take_less {e : En} (h : right e = true) : takeEn ((bytes e).take ((bytes e).length - 1)) = Sum.inr 3 := enC.last (en_ok h) (bytes_pos e)
theorem en_errs (l : List UInt8) : Errs (takeEn l) := bind_errs (num_errs _) fun _ _ => bind_errs (num_errs _) fun _ _ => bind_errs (E.bat_errs _) fun _ _ => if_errs (ok_errs _ _) (bad_errs (by omega))

/-- Rows. -/
def rowB (l : List En) : List UInt8 := N.putL l.length ++ l.flatMap bytes
def putRow (l : List En) : List UInt8 := if l.all right = true then rowB l else []
theorem putRow_ok {l : List En} (h : l.all right = true) : putRow l = rowB l := by unfold putRow; rw [if_pos h]
theorem putRow_bad {l : List En} (h : l.all right = false) : putRow l = [] := by unfold putRow; rw [if_neg (by rw [h]; decide)]
def takeRow (l : List UInt8) (most : Int) : Rd (List En) := bind (N.takeL l) fun n r => if most < n then Sum.inr 4 else takeN takeEn n r
theorem row_back {xs : List En} (h : xs.all right = true) (hl : xs.length ≤ 1000000) (r : List UInt8) (most : Int) (hm : ¬ most < xs.length) : takeRow (rowB xs ++ r) most = Sum.inl (xs, r) := by
  unfold takeRow rowB
  rw [List.append_assoc, bind_ok _ (N.take_put (by omega) _), if_neg hm]
  exact takeN_back enC xs r fun x hx => en_ok (List.all_eq_true.1 h x hx)
theorem row_long {xs : List En} (hl : xs.length ≤ 1000000) (r : List UInt8) (most : Int) (hm : most < xs.length) : takeRow (rowB xs ++ r) most = Sum.inr 4 := by
  unfold takeRow rowB
  rw [List.append_assoc, bind_ok _ (N.take_put (by omega) _), if_pos hm]
theorem row_errs (l : List UInt8) (most : Int) : Errs (takeRow l most) := bind_errs (num_errs _) fun _ _ => if_errs (bad_errs (by omega)) (takeN_errs en_errs _ _)
theorem row_len : ∀ {xs : List En}, xs.all right = true → (xs.flatMap bytes).length ≤ 20012 * xs.length
  | [], _ => by simp
  | x :: xs, h => by
    rw [List.all_cons, Bool.and_eq_true] at h
    have h1 := bytes_len h.1
    have h2 := row_len h.2
    rw [List.flatMap_cons, List.length_append, List.length_cons]
    omega

/-- Do entries go on from a place? -/
def follows : List En → Int → Int → Bool
  | [], _, _ => true
  | e :: l, p, q => right e && (decide (e.pos = p + 1) && (decide (q ≤ e.epoch) && follows l e.pos e.epoch))
theorem follows_cons {e : En} {l : List En} {p q : Int} : follows (e :: l) p q = true ↔ right e = true ∧ e.pos = p + 1 ∧ q ≤ e.epoch ∧ follows l e.pos e.epoch = true := by
  rw [follows]; simp only [Bool.and_eq_true, decide_eq_true_eq]
def lastP (l : List En) (p : Int) : Int := (l.getLast?.map (·.pos)).getD p
def lastQ (l : List En) (q : Int) : Int := (l.getLast?.map (·.epoch)).getD q
theorem lastP_cons (e : En) (l : List En) (p : Int) : lastP (e :: l) p = lastP l e.pos := by
  unfold lastP
  rw [List.getLast?_cons]
  cases l.getLast? <;> rfl
theorem lastQ_cons (e : En) (l : List En) (q : Int) : lastQ (e :: l) q = lastQ l e.epoch := by
  unfold lastQ
  rw [List.getLast?_cons]
  cases l.getLast? <;> rfl
theorem follows_append : ∀ (xs ys : List En) (p q : Int), follows (xs ++ ys) p q = true ↔ follows xs p q = true ∧ follows ys (lastP xs p) (lastQ xs q) = true
  | [], ys, p, q => by simp [follows, lastP, lastQ]
  | x :: xs, ys, p, q => by
    rw [List.cons_append, follows_cons, follows_cons, follows_append xs ys, lastP_cons, lastQ_cons]
    constructor
    · rintro ⟨h1, h2, h3, h4, h5⟩; exact ⟨⟨h1, h2, h3, h4⟩, h5⟩
    · rintro ⟨⟨h1, h2, h3, h4⟩, h5⟩; exact ⟨h1, h2, h3, h4, h5⟩
theorem follows_pos : ∀ {l : List En} {p q : Int}, follows l p q = true → ∀ i (h : i < l.length), l[i].pos = p + 1 + i
  | e :: l, p, q, hf, 0, _ => by
    have := (follows_cons.1 hf).2.1
    show e.pos = _
    omega
  | e :: l, p, q, hf, i + 1, h => by
    obtain ⟨_, h2, _, h4⟩ := follows_cons.1 hf
    have h6 : i < l.length := by simpa using h
    have := follows_pos h4 i h6
    show l[i].pos = _
    omega
theorem follows_right {l : List En} {p q : Int} (h : follows l p q = true) : ∀ e ∈ l, right e = true := by
  induction l generalizing p q with
  | nil => simp
  | cons a l ih =>
    obtain ⟨h1, _, _, h4⟩ := follows_cons.1 h
    intro e he
    rcases List.mem_cons.1 he with rfl | he
    · exact h1
    · exact ih h4 e he

/-- The marks of entries. -/
abbrev Mk : Type := Int × Int
def marksF : Option Int → List En → List Mk
  | _, [] => []
  | o, e :: l => if o = some e.epoch then marksF (some e.epoch) l else (e.epoch, e.pos) :: marksF (some e.epoch) l
def marks (l : List En) : List Mk := marksF none l
def epochAt (ms : List Mk) (p : Int) : Int := ms.foldl (fun n m => if m.2 ≤ p then m.1 else n) 0
/-- Entries whose places follow one another, from c on. -/
def Runs : List En → Int → Prop
  | [], _ => True
  | e :: l, c => e.pos = c ∧ Runs l (c + 1)
theorem runs_of_follows : ∀ {l : List En} {p q : Int}, follows l p q = true → Runs l (p + 1)
  | [], _, _, _ => trivial
  | e :: l, p, q, h => by
    obtain ⟨_, h2, _, h4⟩ := follows_cons.1 h
    exact ⟨h2, by have := runs_of_follows h4; rwa [h2] at this⟩
theorem fold_low : ∀ (o : Option Int) (l : List En) (c p n : Int), Runs l c → p < c → (marksF o l).foldl (fun n m => if m.2 ≤ p then m.1 else n) n = n
  | _, [], _, _, _, _, _ => rfl
  | o, e :: l, c, p, n, h, hp => by
    rw [marksF]
    split
    · exact fold_low _ l (c + 1) p n h.2 (by omega)
    · rw [List.foldl_cons, if_neg (by have := h.1; show ¬ e.pos ≤ p; omega)]
      exact fold_low _ l (c + 1) p n h.2 (by omega)
theorem fold_at : ∀ (o : Option Int) (l : List En) (c n : Int) (i : Nat) (hi : i < l.length), Runs l c → (∀ x, o = some x → n = x) → (marksF o l).foldl (fun n m => if m.2 ≤ c + i then m.1 else n) n = l[i].epoch
  | o, e :: l, c, n, i, hi, h, ho => by
    rw [marksF]
    have key : ∀ n' : Int, n' = e.epoch → (marksF (some e.epoch) l).foldl (fun n m => if m.2 ≤ c + i then m.1 else n) n' = (e :: l)[i].epoch := by
      intro n' hn
      cases i with
      | zero =>
        rw [fold_low _ l (c + 1) (c + (0 : Nat)) n' h.2 (by omega)]
        exact hn
      | succ i =>
        have := fold_at (some e.epoch) l (c + 1) n' i (by simpa using hi) h.2 (fun x hx => by cases hx; exact hn)
        rw [show c + 1 + (i : Int) = c + ((i + 1 : Nat) : Int) by omega] at this
        exact this
    split
    · rename_i he
      exact key n (ho _ he)
    · rw [List.foldl_cons, if_pos (by have := h.1; show e.pos ≤ c + i; omega)]
      exact key _ rfl
/-- Marks tell each place's epoch. -/
theorem epoch_at {l : List En} {c : Int} (h : Runs l c) (i : Nat) (hi : i < l.length) : epochAt (marks l) (c + i) = l[i].epoch := fold_at none l c 0 i hi h (fun x hx => by cases hx)

/-- Where two logs part. -/
def agree (a b : List Mk) (p : Int) : Bool := decide (epochAt a p = epochAt b p) && decide (epochAt a p ≠ 0)
def forkF (a b : List Mk) : Nat → Nat → Nat
  | 0, p => p
  | k + 1, p => if agree a b ((p : Int) + 1) = true then forkF a b k (p + 1) else p
def fork (a : List Mk) (la : Int) (b : List Mk) (lb : Int) : Nat := forkF a b (min la lb).toNat 0
theorem forkF_is {a b : List Mk} : ∀ (k p m : Nat), p ≤ m → m ≤ p + k → (∀ q, p ≤ q → q < m → agree a b ((q : Int) + 1) = true) → (m < p + k → agree a b ((m : Int) + 1) = false) → forkF a b k p = m
  | 0, p, m, h1, h2, _, _ => by
    rw [forkF]; omega
  | k + 1, p, m, h1, h2, h3, h4 => by
    rw [forkF]
    by_cases hpm : p = m
    · subst hpm
      rw [if_neg (by rw [h4 (by omega)]; decide)]
    · rw [if_pos (h3 p (Nat.le_refl _) (by omega))]
      exact forkF_is k (p + 1) m (by omega) (by omega) (fun q hq hq2 => h3 q (by omega) hq2) (fun h => h4 (by omega))
theorem fork_is {a b : List Mk} {la lb : Int} {m : Nat} (hm : (m : Int) ≤ max 0 (min la lb)) (h3 : ∀ q : Nat, q < m → agree a b ((q : Int) + 1) = true) (h4 : (m : Int) < min la lb → agree a b ((m : Int) + 1) = false) : fork a la b lb = m :=
  forkF_is _ 0 m (Nat.zero_le _) (by omega) (fun q _ hq => h3 q hq) (fun h => h4 (by omega))
theorem agree_comm {a b : List Mk} {p : Int} : agree a b p = agree b a p := by
  unfold agree
  by_cases h : epochAt a p = epochAt b p
  · rw [h]
  · rw [decide_eq_false h, decide_eq_false (p := epochAt b p = epochAt a p) (fun h2 => h h2.symm)]; rfl
theorem forkF_comm (a b : List Mk) : ∀ k p, forkF a b k p = forkF b a k p
  | 0, _ => rfl
  | k + 1, p => by rw [forkF, forkF, agree_comm, forkF_comm a b k]
theorem fork_comm (a b : List Mk) (la lb : Int) : fork a la b lb = fork b lb a la := by
  unfold fork; rw [forkF_comm, Int.min_comm]
/-- Two logs that begin at 1, of which the first k entries have the same epochs, and the next ones have not: they part there. -/
theorem fork_logs {a b : List En} {k : Nat} (ha : Runs a 1) (hb : Runs b 1) (hka : k ≤ a.length) (hkb : k ≤ b.length) (hs : ∀ i (h1 : i < a.length) (h2 : i < b.length), i < k → a[i].epoch = b[i].epoch ∧ a[i].epoch ≠ 0)
    (hd : ∀ (h1 : k < a.length) (h2 : k < b.length), a[k].epoch ≠ b[k].epoch) : fork (marks a) a.length (marks b) b.length = k := by
  have ea : ∀ i (h : i < a.length), epochAt (marks a) ((i : Int) + 1) = a[i].epoch := fun i h => by rw [← epoch_at ha i h, Int.add_comm]
  have eb : ∀ i (h : i < b.length), epochAt (marks b) ((i : Int) + 1) = b[i].epoch := fun i h => by rw [← epoch_at hb i h, Int.add_comm]
  refine fork_is (by omega) (fun q hq => ?_) (fun hm => ?_)
  · obtain ⟨h1, h2⟩ := hs q (by omega) (by omega) hq
    unfold agree
    rw [ea q (by omega), eb q (by omega), decide_eq_true h1, decide_eq_true h2]
    rfl
  · have h1 : k < a.length := by omega
    have h2 : k < b.length := by omega
    unfold agree
    rw [ea k h1, eb k h2, decide_eq_false (hd h1 h2)]
    rfl
theorem fork_self {a : List En} (ha : Runs a 1) (hp : ∀ e ∈ a, e.epoch ≠ 0) : fork (marks a) a.length (marks a) a.length = a.length :=
  fork_logs ha ha (Nat.le_refl _) (Nat.le_refl _) (fun _ h1 _ _ => ⟨rfl, hp _ (List.getElem_mem h1)⟩) (fun h1 _ => absurd h1 (Nat.lt_irrefl _))

/-- Entries that follow one another do so in two parts; with one left out they do not. -/
theorem cuts {l : List En} {k : Nat} (hl : 2 ≤ l.length) (h1 : 1 ≤ k) (h2 : k < l.length) {p : Int} (h : follows l p 0 = true) :
    follows (l.take k) p 0 = true ∧ follows (l.drop k) l[k - 1].pos l[k - 1].epoch = true ∧ follows (l.take (k - 1) ++ l.drop k) p 0 = false ∧ follows l (p + 1) 0 = false := by
  have hl2 : (l.take k).getLast? = some l[k - 1] := by
    rw [List.getLast?_eq_getElem?, List.length_take, Nat.min_eq_left (by omega), List.getElem?_take, if_pos (by omega), List.getElem?_eq_getElem (by omega)]
  have hp := follows_pos h
  have hs := h
  rw [← List.take_append_drop k l, follows_append] at hs
  have e1 : lastP (l.take k) p = l[k - 1].pos := by unfold lastP; rw [hl2]; rfl
  have e2 : lastQ (l.take k) 0 = l[k - 1].epoch := by unfold lastQ; rw [hl2]; rfl
  rw [e1, e2] at hs
  refine ⟨hs.1, hs.2, ?_, ?_⟩
  · cases hc : follows (l.take (k - 1) ++ l.drop k) p 0
    · rfl
    · have h3 := follows_pos hc (k - 1) (by rw [List.length_append, List.length_take, List.length_drop]; omega)
      have h4 : (l.take (k - 1) ++ l.drop k)[k - 1]'(by rw [List.length_append, List.length_take, List.length_drop]; omega) = l[k] := by
        rw [List.getElem_append_right (by rw [List.length_take]; omega)]
        simp [List.length_take, Nat.min_eq_left (show k - 1 ≤ l.length by omega)]
      rw [h4, hp k h2] at h3
      omega
  · cases hc : follows l (p + 1) 0
    · rfl
    · have h3 := follows_pos hc 0 (by omega)
      rw [hp 0 (by omega)] at h3
      omega
end Go.Proofs.YtljcgpdjhjkciaaGreat.R
