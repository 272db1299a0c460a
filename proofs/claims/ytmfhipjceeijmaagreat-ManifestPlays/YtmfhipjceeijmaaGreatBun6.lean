/-
  Own texts, joined: ManSpec ManSpec2 ManRefSpec
-/
import Derived.Test.YtmfhipjceeijmaaGreatBun2
import Derived.Test.YtmfhipjceeijmaaGreatBun4

/-
  The manifest and the mark of epochs, over lists of bytes and the disk's lists. No program in this text.
-/
namespace Go.Proofs.YtmfhipjceeijmaaGreat.A
open D (Tx)

def temp : Tx := [116, 101, 109, 112]
def fileN : Tx := [109, 97, 110, 105, 102, 101, 115, 116]
def markN : Tx := [101, 112, 111, 99, 104]
def far : Nat := 274877906944

/-- Numbers that rise, each less than next. -/
def rises (last next : Int) : List Int → Bool
  | [] => true
  | n :: l => decide (last < n ∧ n < next) && rises n next l
def right (next : Int) (segs : List Int) : Bool := decide (1 ≤ next ∧ next ≤ 1073741824) && (decide (segs.length ≤ 30) && rises 0 next segs)
theorem rises_all {next : Int} : ∀ {l : List Int} {last : Int}, rises last next l = true → ∀ n ∈ l, last < n ∧ n < next
  | [], _, _, n, hn => by cases hn
  | m :: l, last, h, n, hn => by
    rw [rises, Bool.and_eq_true, decide_eq_true_eq] at h
    rcases List.mem_cons.1 hn with rfl | hn
    · exact h.1
    · have := rises_all h.2 n hn
      omega
theorem right_iff {next : Int} {segs : List Int} : right next segs = true ↔ (1 ≤ next ∧ next ≤ 1073741824) ∧ segs.length ≤ 30 ∧ rises 0 next segs = true := by
  simp [right]
theorem right_segs {next : Int} {segs : List Int} (h : right next segs = true) : ∀ n ∈ segs, 1 ≤ n ∧ n < 1073741824 := fun n hn => by
  have h1 := right_iff.1 h
  have := rises_all h1.2.2 n hn
  omega
def putsI (l : List Int) : Tx := l.flatMap fun n => N.putL n.toNat
theorem putsI_nil : putsI [] = [] := rfl
theorem putsI_cons (n : Int) (l : List Int) : putsI (n :: l) = N.putL n.toNat ++ putsI l := by unfold putsI; rw [List.flatMap_cons]
theorem putsI_append (a b : List Int) : putsI (a ++ b) = putsI a ++ putsI b := by unfold putsI; rw [List.flatMap_append]
theorem putsI_step {l : List Int} {k : Nat} (h : k < l.length) : putsI (l.take (k + 1)) = putsI (l.take k) ++ N.putL l[k].toNat := by
  rw [List.take_succ_eq_append_getElem h, putsI_append, putsI_cons, putsI_nil, List.append_nil]
theorem putsI_len : ∀ {l : List Int}, (∀ n ∈ l, n ≤ 1099511627776) → (putsI l).length ≤ 6 * l.length
  | [], _ => by simp [putsI]
  | n :: l, h => by
    have h1 := N.putL_len6 (m := n.toNat) (by have := h n (by simp); omega)
    have h2 := putsI_len (l := l) fun m hm => h m (by simp [hm])
    rw [putsI_cons, List.length_append, List.length_cons]
    omega
/-- A manifest's payload. -/
def payload (next : Int) (segs : List Int) : Tx := N.putL next.toNat ++ (N.putL segs.length ++ putsI segs)
theorem payload_good {next : Int} {segs : List Int} (h : right next segs = true) : F.good (payload next segs) ∧ (payload next segs).length ≤ 192 := by
  have h1 := right_iff.1 h
  have h2 := putsI_len (l := segs) fun n hn => by have := right_segs h n hn; omega
  have h3 := N.putL_len6 (m := next.toNat) (by omega)
  have h4 := N.putL_pos next.toNat
  have h5 := N.putL_len6 (m := segs.length) (by omega)
  have hl : (payload next segs).length = (N.putL next.toNat).length + ((N.putL segs.length).length + (putsI segs).length) := by
    unfold payload; rw [List.length_append, List.length_append]
  unfold F.good
  omega

/-- A number off the front; what is left, whether nothing was wrong. -/
abbrev Stt := Tx × Bool
def step (s : Stt) : Nat × Stt := match N.takeL s.1 with | .inl (n, r) => (n, r, s.2) | .inr _ => (0, [], false)
theorem step_ok {s r : Tx} {n : Nat} (b : Bool) (h : N.takeL s = .ok n r) : step (s, b) = (n, r, b) := by simp only [step, h, N.Tk.ok]
theorem step_bad {s : Tx} {e : Nat} (b : Bool) (h : N.takeL s = .bad e) : step (s, b) = (0, [], false) := by simp only [step, h, N.Tk.bad]
theorem step_put {n : Nat} (h : n ≤ 1099511627776) (r : Tx) (b : Bool) : step (N.putL n ++ r, b) = (n, r, b) := step_ok b (N.take_put h r)
theorem step_le (s : Stt) : (step s).1 ≤ 1099511627776 ∧ (step s).2.1.length ≤ s.1.length := by
  obtain ⟨s, b⟩ := s
  rcases N.takeL_cases s with ⟨e, h⟩ | ⟨n, r, h⟩
  · rw [step_bad b h]; simp
  · rw [step_ok b h]
    have := N.take_inv h
    refine ⟨this.2, ?_⟩
    show r.length ≤ s.length
    rw [this.1, List.length_append]
    omega
def steps : Nat → Stt → List Nat × Stt
  | 0, s => ([], s)
  | k + 1, s => ((step s).1 :: (steps k (step s).2).1, (steps k (step s).2).2)
theorem steps_len : ∀ (k : Nat) (s : Stt), (steps k s).1.length = k
  | 0, _ => rfl
  | k + 1, s => by rw [steps, List.length_cons, steps_len k]
theorem steps_snoc : ∀ (k : Nat) (s : Stt), steps (k + 1) s = ((steps k s).1 ++ [(step (steps k s).2).1], (step (steps k s).2).2)
  | 0, s => rfl
  | k + 1, s => by
    have h := steps_snoc k (step s).2
    rw [steps, h]
    rfl
theorem steps_short : ∀ (k : Nat) (s : Stt), (steps k s).2.1.length ≤ s.1.length
  | 0, s => Nat.le_refl _
  | k + 1, s => by
    have h1 := steps_short k (step s).2
    have h2 := (step_le s).2
    rw [steps]
    exact Nat.le_trans h1 h2
theorem steps_puts : ∀ (l : List Int) (r : Tx) (b : Bool), (∀ n ∈ l, n ≤ 1099511627776) → steps l.length (putsI l ++ r, b) = (l.map Int.toNat, r, b)
  | [], r, b, _ => rfl
  | n :: l, r, b, h => by
    have h1 := step_put (n := n.toNat) (by have := h n (by simp); omega) (putsI l ++ r) b
    have h2 := steps_puts l r b fun m hm => h m (by simp [hm])
    rw [List.length_cons, putsI_cons, List.append_assoc, steps, h1]
    show (n.toNat :: (steps l.length (putsI l ++ r, b)).1, (steps l.length (putsI l ++ r, b)).2) = _
    rw [h2]
    rfl
/-- A manifest of its payload. -/
def castL (l : List Nat) : List Int := l.map Int.ofNat
theorem castL_len (l : List Nat) : (castL l).length = l.length := by simp [castL]
def loadP (p : Tx) : Option (Nat × List Nat) :=
  if 30 < (step (step (p, true)).2).1 then none
  else if (steps (step (step (p, true)).2).1 (step (step (p, true)).2).2).2 = (([] : Tx), true) ∧ right (step (p, true)).1 (castL (steps (step (step (p, true)).2).1 (step (step (p, true)).2).2).1) = true
    then some ((step (p, true)).1, (steps (step (step (p, true)).2).1 (step (step (p, true)).2).2).1) else none
def loadL (s : Tx) : Option (Nat × List Nat) := match F.take s with | .inl (p, []) => loadP p | _ => none
theorem loadL_ok {s p : Tx} (h : F.take s = .ok p []) : loadL s = loadP p := by simp only [loadL, h, F.Tk.ok]
theorem loadL_rest {s p r : Tx} (h : F.take s = .ok p r) (hr : r ≠ []) : loadL s = none := by
  cases r with
  | nil => exact absurd rfl hr
  | cons c r => simp only [loadL, h, F.Tk.ok]
theorem loadL_bad {s : Tx} {e : Nat} (h : F.take s = .bad e) : loadL s = none := by simp only [loadL, h, F.Tk.bad]
theorem loadP_right {p : Tx} {n : Nat} {l : List Nat} (h : loadP p = some (n, l)) : right n (castL l) = true := by
  unfold loadP at h
  split at h
  · cases h
  · split at h
    · rename_i hc
      cases h
      exact hc.2
    · cases h
theorem loadL_right {s : Tx} {n : Nat} {l : List Nat} (h : loadL s = some (n, l)) : right n (castL l) = true := by
  rcases F.take_cases s with ⟨e, hs, _⟩ | ⟨p, r, hs⟩
  · rw [loadL_bad hs] at h; cases h
  · by_cases hr : r = []
    · subst hr
      rw [loadL_ok hs] at h
      exact loadP_right h
    · rw [loadL_rest hs hr] at h; cases h
theorem cast_nat {l : List Int} (h : ∀ n ∈ l, 0 ≤ n) : castL (l.map Int.toNat) = l := by
  unfold castL
  rw [List.map_map]
  conv => rhs; rw [← List.map_id l]
  exact List.map_congr_left fun n hn => by
    show ((n.toNat : Nat) : Int) = n
    exact Int.toNat_of_nonneg (h n hn)
theorem loadP_payload {next : Int} {segs : List Int} (h : right next segs = true) : loadP (payload next segs) = some (next.toNat, segs.map Int.toNat) := by
  have h1 := right_iff.1 h
  have hs := right_segs h
  have e1 : step (payload next segs, true) = (next.toNat, N.putL segs.length ++ putsI segs, true) := step_put (by omega) _ _
  have e2 : step (N.putL segs.length ++ putsI segs, true) = (segs.length, putsI segs, true) := step_put (by omega) _ _
  have e3 : steps segs.length (putsI segs, true) = (segs.map Int.toNat, [], true) := by
    have := steps_puts segs [] true fun n hn => by have := hs n hn; omega
    rwa [List.append_nil] at this
  unfold loadP
  rw [e1]
  dsimp only
  rw [e2]
  dsimp only
  rw [e3]
  dsimp only
  rw [if_neg (by omega), cast_nat fun n hn => by have := hs n hn; omega, Int.toNat_of_nonneg (by omega), if_pos ⟨rfl, h⟩]
theorem load_frame {next : Int} {segs : List Int} (h : right next segs = true) : loadL (F.frame (payload next segs)) = some (next.toNat, segs.map Int.toNat) := by
  have ht := F.take_frame (payload_good h).1 []
  rw [List.append_nil] at ht
  rw [loadL_ok ht, loadP_payload h]

/-- An epoch of a payload; of what Mark has: the last one, in how many frames, nothing else. -/
def epochOf (p : Tx) : Option Nat := match N.takeL p with | .inl (n, []) => if 1 ≤ n ∧ n ≤ far then some n else none | _ => none
def marksF : Nat → Nat → List Tx → Nat × Nat × Bool
  | a, k, [] => (a, k, true)
  | a, k, p :: l => match epochOf p with
    | some e => if a < e then marksF e (k + 1) l else (a, k, false)
    | none => (a, k, false)
def marksOf (s : Tx) : Nat × Nat × Bool := ((marksF 0 0 (F.scan s).1).1, (marksF 0 0 (F.scan s).1).2.1, (marksF 0 0 (F.scan s).1).2.2 && decide ((F.scan s).2 = s.length))
theorem epoch_some {p : Tx} {e : Nat} (h : epochOf p = some e) : 1 ≤ e ∧ e ≤ far ∧ p = N.putL e := by
  unfold epochOf at h
  split at h
  · rename_i n hn
    split at h
    · rename_i hb
      cases h
      have := N.take_inv hn
      rw [List.append_nil] at this
      exact ⟨hb.1, hb.2, this.1⟩
    · cases h
  · cases h
theorem epoch_put {e : Nat} (h1 : 1 ≤ e) (h2 : e ≤ far) : epochOf (N.putL e) = some e := by
  have := N.take_put (n := e) (by unfold far at h2; omega) []
  rw [List.append_nil] at this
  unfold epochOf
  rw [this]
  simp only
  rw [if_pos ⟨h1, h2⟩]
theorem marksF_some {p : Tx} {e : Nat} (a k : Nat) (l : List Tx) (h : epochOf p = some e) : marksF a k (p :: l) = if a < e then marksF e (k + 1) l else (a, k, false) := by rw [marksF, h]
theorem marksF_none {p : Tx} (a k : Nat) (l : List Tx) (h : epochOf p = none) : marksF a k (p :: l) = (a, k, false) := by rw [marksF, h]
theorem marksF_le : ∀ (l : List Tx) (a k : Nat), a ≤ far → (marksF a k l).1 ≤ far ∧ (marksF a k l).2.1 ≤ k + l.length
  | [], a, k, h => by simpa [marksF] using h
  | p :: l, a, k, h => by
    unfold marksF
    cases he : epochOf p with
    | none => simpa using h
    | some e =>
      dsimp only
      split
      · have := marksF_le l e (k + 1) (epoch_some he).2.1
        rw [List.length_cons]
        omega
      · simpa using h
theorem marks_le (s : Tx) : (marksOf s).1 ≤ far ∧ (marksOf s).2.1 ≤ s.length := by
  have h1 := marksF_le (F.scan s).1 0 0 (Nat.zero_le _)
  have h2 := F.scan_count s
  unfold marksOf
  dsimp only
  omega
theorem marksF_append : ∀ (l : List Tx) (a k : Nat), (marksF a k l).2.2 = true → ∀ m, marksF a k (l ++ m) = marksF (marksF a k l).1 (marksF a k l).2.1 m
  | [], a, k, _, m => rfl
  | p :: l, a, k, h, m => by
    rw [List.cons_append]
    cases he : epochOf p with
    | none => rw [marksF_none a k l he] at h; cases h
    | some e =>
      rw [marksF_some a k l he] at h ⊢
      rw [marksF_some a k _ he]
      by_cases hl : a < e
      · rw [if_pos hl] at h ⊢
        rw [if_pos hl]
        exact marksF_append l e (k + 1) h m
      · rw [if_neg hl] at h
        cases h
theorem scan_nil : F.scan [] = ([], 0) := F.scan_bad (F.take_few (by simp))
theorem scan_append : ∀ (s t : Tx), (F.scan s).2 = s.length → F.scan (s ++ t) = ((F.scan s).1 ++ (F.scan t).1, (F.scan s).2 + (F.scan t).2) := fun s => by
  suffices hs : ∀ (n : Nat) (s : Tx), s.length ≤ n → ∀ t, (F.scan s).2 = s.length → F.scan (s ++ t) = ((F.scan s).1 ++ (F.scan t).1, (F.scan s).2 + (F.scan t).2) from hs s.length s (Nat.le_refl _)
  intro n
  induction n with
  | zero =>
    intro s hs t _
    obtain rfl : s = [] := List.length_eq_zero_iff.1 (by omega)
    rw [scan_nil]
    simp
  | succ n ih =>
    intro s hs t h
    rcases F.take_cases s with ⟨e, h1, _⟩ | ⟨p, r, h1⟩
    · rw [F.scan_bad h1] at h
      dsimp only at h
      obtain rfl : s = [] := List.length_eq_zero_iff.1 h.symm
      rw [scan_nil]
      simp
    · obtain ⟨rfl, hg⟩ := F.take_inv h1
      rw [F.scan_ok h1, List.length_append, F.frame_len] at h
      dsimp only at h
      have hr := ih r (by rw [List.length_append, F.frame_len] at hs; omega) t (by omega)
      rw [List.append_assoc, F.scan_frame hg, hr, F.scan_frame hg]
      dsimp only
      rw [List.cons_append, Nat.add_assoc (p.length + 8)]
theorem scan_one {p : Tx} (h : F.good p) : F.scan (F.frame p) = ([p], p.length + 8) := by
  have := F.scan_row_all (l := [p]) fun q hq => by rw [List.mem_singleton] at hq; subst hq; exact h
  rw [F.frames_cons, F.frames_nil, List.append_nil, F.frame_len] at this
  exact this
theorem put_good {e : Nat} (h2 : e ≤ far) : F.good (N.putL e) ∧ (N.putL e).length ≤ 6 := by
  have h3 := N.putL_len6 (m := e) (by unfold far at h2; omega)
  have := N.putL_pos e
  unfold F.good
  omega
theorem marks_one {e : Nat} (h1 : 1 ≤ e) (h2 : e ≤ far) : marksOf (F.frame (N.putL e)) = (e, 1, true) := by
  unfold marksOf
  rw [scan_one (put_good h2).1, F.frame_len]
  dsimp only
  rw [marksF, epoch_put h1 h2]
  dsimp only
  rw [if_pos (by omega), marksF]
  simp
theorem marks_more {s : Tx} {a k e : Nat} (h : marksOf s = (a, k, true)) (h2 : e ≤ far) (ha : a < e) : marksOf (s ++ F.frame (N.putL e)) = (e, k + 1, true) := by
  have h1 : 1 ≤ e := by omega
  have h3 : (marksF 0 0 (F.scan s).1).1 = a := congrArg Prod.fst h
  have h4 : (marksF 0 0 (F.scan s).1).2.1 = k := congrArg (fun x => x.2.1) h
  have h5 : ((marksF 0 0 (F.scan s).1).2.2 && decide ((F.scan s).2 = s.length)) = true := congrArg (fun x => x.2.2) h
  rw [Bool.and_eq_true, decide_eq_true_eq] at h5
  unfold marksOf
  rw [scan_append s _ h5.2, scan_one (put_good h2).1]
  dsimp only
  rw [marksF_append _ _ _ h5.1, h3, h4, marksF, epoch_put h1 h2]
  dsimp only
  rw [if_pos ha, marksF, h5.2, List.length_append, F.frame_len]
  simp
theorem marks_nil : marksOf [] = (0, 0, true) := by
  unfold marksOf
  rw [scan_nil]
  rfl

/-- The document's calls, over a disk's files: the error, the files behind. -/
def replaceD (room : Nat) (nm p : Tx) (l : List D.F) : Nat × List D.F :=
  if (D.append room temp (F.frame p) (D.del temp l)).1 = 0 then D.rename temp nm (D.sync temp (D.append room temp (F.frame p) (D.del temp l)).2).2
  else ((D.append room temp (F.frame p) (D.del temp l)).1, D.del temp l)
def saveD (room : Nat) (next : Int) (segs : List Int) (l : List D.F) : Nat × List D.F := if right next segs = true then replaceD room fileN (payload next segs) l else (1, l)
def loadD (l : List D.F) : Nat × Nat × List Nat := match D.find fileN l with | none => (0, 1, []) | some f => match loadL f.data with | none => (2, 0, []) | some x => (0, x)
def epochD (l : List D.F) : Nat × Nat × Bool := marksOf (D.read markN l).1
def keepD (room e : Nat) (l : List D.F) : Nat × List D.F :=
  if (epochD l).2.2 = true ∧ (epochD l).2.1 ≤ 20 then D.append room markN (F.frame (N.putL e)) l else replaceD room markN (N.putL e) l
def raiseD (room : Nat) (z : Int) (l : List D.F) : Nat × List D.F :=
  if z < 1 ∨ (far : Int) < z then (1, l)
  else if z.toNat < (epochD l).1 then (10, l)
  else if (epochD l).1 < z.toNat then (if (keepD room z.toNat l).1 = 0 then D.sync markN (keepD room z.toNat l).2 else keepD room z.toNat l)
  else D.sync markN l
theorem append_err {room : Nat} {nm s : Tx} {l : List D.F} (h : (D.append room nm s l).1 ≠ 0) : (D.append room nm s l).2 = l := by
  unfold D.append at h ⊢
  split
  · rfl
  split
  · rfl
  split
  · rfl
  · rename_i h1 h2 h3
    rw [if_neg h1, if_neg h2, if_neg h3] at h
    exact absurd rfl h
theorem append_code (room : Nat) (nm s : Tx) (l : List D.F) : (D.append room nm s l).1 = 0 ∨ (D.append room nm s l).1 = 1 ∨ (D.append room nm s l).1 = 4 ∨ (D.append room nm s l).1 = 8 := by
  unfold D.append
  split
  · exact .inr (.inl rfl)
  split
  · exact .inr (.inr (.inl rfl))
  split
  · exact .inr (.inr (.inr rfl))
  · exact .inl rfl
theorem replace_inv {room : Nat} {nm p : Tx} {l : List D.F} (h : D.Inv room l) : D.Inv room (replaceD room nm p l).2 := by
  unfold replaceD
  split
  · exact h.del.append.sync.rename
  · exact h.del
theorem save_inv {room : Nat} {next : Int} {segs : List Int} {l : List D.F} (h : D.Inv room l) : D.Inv room (saveD room next segs l).2 := by
  unfold saveD
  split
  · exact replace_inv h
  · exact h
theorem keep_inv {room e : Nat} {l : List D.F} (h : D.Inv room l) : D.Inv room (keepD room e l).2 := by
  unfold keepD
  split
  · exact h.append
  · exact replace_inv h
theorem raise_inv {room : Nat} {z : Int} {l : List D.F} (h : D.Inv room l) : D.Inv room (raiseD room z l).2 := by
  unfold raiseD
  split
  · exact h
  split
  · exact h
  split
  · split
    · exact (keep_inv h).sync
    · exact keep_inv h
  · exact h.sync
/-- A file whose bytes are all synced. -/
def full (nm s : Tx) : D.F := ⟨nm, s, s.length⟩
theorem append_new {room : Nat} {nm s : Tx} {l : List D.F} (hn : nameL nm = true) (hf : D.find nm l = none) (h40 : l.length < 40) (hr : D.used l + s.length ≤ room) : D.append room nm s l = (0, D.put ⟨nm, s, 0⟩ l) := by
  unfold D.append
  rw [if_neg (by rw [hn]; decide), if_neg (by omega), if_neg (by omega), hf]
theorem append_zero {room : Nat} {nm s : Tx} {l : List D.F} (h : (D.append room nm s l).1 = 0) : (D.append room nm s l).2 = D.put (match D.find nm l with | some f => ⟨nm, f.data ++ s, f.syn⟩ | none => ⟨nm, s, 0⟩) l := by
  unfold D.append at h ⊢
  split
  · rename_i h1; rw [if_pos h1] at h; cases h
  split
  · rename_i h1 h2; rw [if_neg h1, if_pos h2] at h; cases h
  split
  · rename_i h1 h2 h3; rw [if_neg h1, if_neg h2, if_pos h3] at h; cases h
  · rfl
theorem sync_put {nm s : Tx} {y : Nat} {l : List D.F} : D.sync nm (D.put ⟨nm, s, y⟩ l) = (0, D.put (full nm s) l) := by
  have hp := D.find_put (f := ⟨nm, s, y⟩) l
  dsimp only at hp
  unfold D.sync
  rw [hp]
  dsimp only
  rw [D.put_put (f := ⟨nm, s, s.length⟩) (g := ⟨nm, s, y⟩) rfl]
  rfl
/-- What replaces a file: nothing but Temp is gone, or the bytes are there, synced, and Temp is not. -/
theorem replace_is {room : Nat} {nm p : Tx} (l : List D.F) (hn : nameL nm = true) : ((replaceD room nm p l).1 = 0 ∧ (replaceD room nm p l).2 = D.put (full nm (F.frame p)) (D.del temp l)) ∨ ((replaceD room nm p l).1 ≠ 0 ∧ (replaceD room nm p l).2 = D.del temp l) := by
  unfold replaceD
  by_cases h : (D.append room temp (F.frame p) (D.del temp l)).1 = 0
  · rw [if_pos h, append_zero h, D.find_del]
    dsimp only
    rw [sync_put]
    dsimp only
    left
    have hp := D.find_put (f := full temp (F.frame p)) (D.del temp l)
    rw [show (full temp (F.frame p)).name = temp from rfl] at hp
    unfold D.rename
    rw [hp]
    dsimp only
    rw [if_neg (by rw [hn]; decide)]
    have hd := D.del_put (f := full temp (F.frame p)) (l := D.del temp l) (D.find_del temp l)
    rw [show (full temp (F.frame p)).name = temp from rfl] at hd
    rw [hd]
    exact ⟨rfl, rfl⟩
  · rw [if_neg h]
    exact .inr ⟨h, rfl⟩
theorem replace_ok {room : Nat} {nm p : Tx} {l : List D.F} (hn : nameL nm = true) (h40 : (D.del temp l).length < 40) (hr : D.used (D.del temp l) + (p.length + 8) ≤ room) : replaceD room nm p l = (0, D.put (full nm (F.frame p)) (D.del temp l)) := by
  rcases replace_is (room := room) (p := p) l hn with ⟨h1, h2⟩ | ⟨h1, -⟩
  · exact Prod.ext h1 h2
  · have ha : D.append room temp (F.frame p) (D.del temp l) = (0, _) := append_new (by decide +kernel) (D.find_del _ _) h40 (by rw [F.frame_len]; exact hr)
    refine absurd ?_ h1
    have hn2 := hn
    unfold replaceD
    rw [ha, if_pos rfl]
    dsimp only
    rw [sync_put]
    dsimp only
    have hp := D.find_put (f := full temp (F.frame p)) (D.del temp l)
    rw [show (full temp (F.frame p)).name = temp from rfl] at hp
    unfold D.rename
    rw [hp]
    dsimp only
    rw [if_neg (by rw [hn2]; decide)]
end Go.Proofs.YtmfhipjceeijmaaGreat.A

/-
  What follows of the manifest and of the mark of epochs, over the disk's lists. No program in this text.
-/
namespace Go.Proofs.YtmfhipjceeijmaaGreat.A
open D (Tx)

theorem crash_find {n : Tx} {f : D.F} : ∀ {ks : List Int} {l : List D.F}, D.find n l = some f → f.syn = f.data.length → D.find n (D.crash ks l) = some f
  | _, [], h, _ => by cases h
  | ks, g :: l, h, hf => by
    rw [D.find] at h
    rw [D.crash, D.find]
    by_cases he : g.name = n
    · rw [if_pos he] at h
      cases h
      rw [if_pos (by exact he), D.crashF_full hf]
    · rw [if_neg he] at h
      rw [if_neg (by exact he)]
      exact crash_find h hf
theorem crash_none {n : Tx} : ∀ {ks : List Int} {l : List D.F}, D.find n l = none → D.find n (D.crash ks l) = none
  | _, [], _ => rfl
  | ks, g :: l, h => by
    rw [D.find] at h
    rw [D.crash, D.find]
    by_cases he : g.name = n
    · rw [if_pos he] at h; cases h
    · rw [if_neg he] at h
      rw [if_neg (by exact he)]
      exact crash_none h
theorem append_find {room : Nat} {nm s n : Tx} {l : List D.F} (h : nm ≠ n) : D.find n (D.append room nm s l).2 = D.find n l := by
  by_cases h0 : (D.append room nm s l).1 = 0
  · rw [append_zero h0]
    cases hf : D.find nm l with
    | none => exact D.find_put_ne (f := ⟨nm, s, 0⟩) h l
    | some f => exact D.find_put_ne (f := ⟨nm, f.data ++ s, f.syn⟩) h l
  · rw [append_err h0]

/-- What a disk keeps of manifests: the last one that was saved, all of it synced. -/
structure Kp (room : Nat) (l : List D.F) (next : Int) (segs : List Int) : Prop where
  inv : D.Inv room l
  file : (D.find fileN l = none ∧ next = 1 ∧ segs = []) ∨ (right next segs = true ∧ D.find fileN l = some (full fileN (F.frame (payload next segs))))
theorem Kp.start (room : Nat) : Kp room [] 1 [] := ⟨D.inv_nil room, .inl ⟨rfl, rfl, rfl⟩⟩
theorem Kp.load {room : Nat} {l : List D.F} {next : Int} {segs : List Int} (h : Kp room l next segs) : ∃ n s, loadD l = (0, n, s) ∧ (n : Int) = next ∧ castL s = segs := by
  rcases h.file with ⟨h1, rfl, rfl⟩ | ⟨h1, h2⟩
  · refine ⟨1, [], ?_, rfl, rfl⟩
    unfold loadD
    rw [h1]
  · refine ⟨next.toNat, segs.map Int.toNat, ?_, ?_, ?_⟩
    · unfold loadD
      rw [h2]
      dsimp only
      rw [show (full fileN (F.frame (payload next segs))).data = F.frame (payload next segs) from rfl, load_frame h1]
    · have := (right_iff.1 h1).1
      omega
    · exact cast_nat fun n hn => by have := right_segs h1 n hn; omega
theorem Kp.save {room : Nat} {l : List D.F} {next n : Int} {segs s : List Int} {e : Nat} {l2 : List D.F} (h : Kp room l next segs) (H : saveD room n s l = (e, l2)) : (e = 0 ∧ Kp room l2 n s) ∨ (e ≠ 0 ∧ Kp room l2 next segs) := by
  have hi := save_inv (next := n) (segs := s) h.inv
  rw [H] at hi
  unfold saveD at H
  by_cases hr : right n s = true
  · rw [if_pos hr] at H
    rcases replace_is (room := room) (nm := fileN) (p := payload n s) l (by decide +kernel) with ⟨h1, h2⟩ | ⟨h1, h2⟩
    · rw [H] at h1 h2
      refine .inl ⟨h1, hi, .inr ⟨hr, ?_⟩⟩
      dsimp only at h2
      rw [h2]
      exact D.find_put (f := full fileN (F.frame (payload n s))) (D.del temp l)
    · rw [H] at h1 h2
      refine .inr ⟨h1, hi, ?_⟩
      dsimp only at h2
      rw [h2, D.find_del_ne (show temp ≠ fileN by decide)]
      exact h.file
  · rw [if_neg hr] at H
    cases H
    exact .inr ⟨by decide, h⟩
theorem Kp.append {room : Nat} {l : List D.F} {next : Int} {segs : List Int} (h : Kp room l next segs) (s : Tx) : Kp room (D.append room temp s l).2 next segs :=
  ⟨h.inv.append, by rw [append_find (show temp ≠ fileN by decide)]; exact h.file⟩
theorem Kp.crash {room : Nat} {l : List D.F} {next : Int} {segs : List Int} (h : Kp room l next segs) (ks : List Int) : Kp room (D.crash ks l) next segs :=
  ⟨h.inv.crash, h.file.imp (fun ⟨a, b⟩ => ⟨crash_none a, b⟩) fun ⟨a, b⟩ => ⟨a, crash_find b rfl⟩⟩

/-- What a disk with epochs alone keeps. -/
structure Ep (l : List D.F) (now : Nat) : Prop where
  st : (l = [] ∧ now = 0) ∨ ∃ s k, l = [full markN s] ∧ marksOf s = (now, k, true) ∧ k ≤ 21 ∧ s.length ≤ 14 * k
theorem Ep.start : Ep [] 0 := ⟨.inl ⟨rfl, rfl⟩⟩
theorem one_inv {room y : Nat} {nm s : Tx} (h : s.length ≤ room) (hy : y ≤ s.length) : D.Inv room [⟨nm, s, y⟩] :=
  ⟨List.pairwise_singleton _ _, fun f hf => by rw [List.mem_singleton] at hf; subst hf; exact hy, by simp, by simpa [D.used] using h⟩
theorem Ep.inv {room : Nat} {l : List D.F} {now : Nat} (h : Ep l now) (hr : 400 ≤ room) : D.Inv room l := by
  rcases h.st with ⟨rfl, -⟩ | ⟨s, k, rfl, -, h1, h2⟩
  · exact D.inv_nil _
  · exact one_inv (by omega) (Nat.le_refl _)
theorem Ep.used {l : List D.F} {now : Nat} (h : Ep l now) : D.used l ≤ 294 := by
  rcases h.st with ⟨rfl, -⟩ | ⟨s, k, rfl, -, h1, h2⟩
  · simp [D.used]
  · simp [D.used, full]; omega
theorem find_one (nm s : Tx) (y : Nat) : D.find nm [⟨nm, s, y⟩] = some ⟨nm, s, y⟩ := by rw [D.find, if_pos rfl]
theorem read_one (nm s : Tx) (y : Nat) : D.read nm [⟨nm, s, y⟩] = (s, 0) := by unfold D.read; rw [find_one]
theorem put_one (nm s t : Tx) (y z : Nat) : D.put ⟨nm, s, y⟩ [⟨nm, t, z⟩] = [⟨nm, s, y⟩] := by
  unfold D.put
  rw [if_neg (by show ¬ D.lt nm nm = true; rw [D.lt_irrefl]; decide), if_pos rfl]
theorem Ep.epoch {l : List D.F} {now : Nat} (h : Ep l now) : (epochD l).1 = now := by
  rcases h.st with ⟨rfl, rfl⟩ | ⟨s, k, rfl, h0, -, -⟩
  · show (marksOf []).1 = 0
    rw [marks_nil]
  · unfold epochD full
    rw [read_one, h0]
theorem Ep.crash {l : List D.F} {now : Nat} (h : Ep l now) (ks : List Int) : Ep (D.crash ks l) now := by
  have : D.Full l := by
    rcases h.st with ⟨rfl, -⟩ | ⟨s, k, rfl, -, -, -⟩
    · exact fun f hf => by cases hf
    · exact fun f hf => by rw [List.mem_singleton] at hf; subst hf; rfl
  rw [D.crash_full this]
  exact h
theorem append_one {room y : Nat} {nm s t : Tx} (hn : nameL nm = true) (hr : s.length + t.length ≤ room) : D.append room nm t [⟨nm, s, y⟩] = (0, [⟨nm, s ++ t, y⟩]) := by
  unfold D.append
  rw [if_neg (by rw [hn]; decide), if_neg (by rw [find_one]; intro h; cases h.1), if_neg (by simp [D.used]; omega), find_one]
  dsimp only
  rw [put_one]
theorem sync_one (nm s : Tx) (y : Nat) : D.sync nm [⟨nm, s, y⟩] = (0, [full nm s]) := by
  unfold D.sync
  rw [find_one]
  dsimp only
  rw [put_one]
  rfl
theorem mark_name : nameL markN = true := by decide +kernel
theorem frame_le {e : Nat} (h2 : e ≤ far) : (F.frame (N.putL e)).length ≤ 14 := by
  have := (put_good h2).2
  rw [F.frame_len]
  omega
/-- An epoch that is right, and not below the one that is there, is kept. -/
theorem Ep.raise {room : Nat} {l : List D.F} {now : Nat} (h : Ep l now) (hr : 400 ≤ room) {z : Int} (h1 : 1 ≤ z) (h2 : z ≤ far) (hn : (now : Int) ≤ z) : ∃ l2, raiseD room z l = (0, l2) ∧ Ep l2 z.toNat := by
  have h1n : 1 ≤ z.toNat := by omega
  have h2n : z.toNat ≤ far := by omega
  have he := h.epoch
  unfold raiseD
  rw [if_neg (by omega), he, if_neg (by omega)]
  have hfl := frame_le h2n
  rcases h.st with ⟨rfl, rfl⟩ | ⟨s, k, rfl, h0, hk, hl⟩
  · rw [if_pos (by omega)]
    have ha : D.append room markN (F.frame (N.putL z.toNat)) [] = (0, [⟨markN, F.frame (N.putL z.toNat), 0⟩]) := append_new mark_name rfl (by simp) (by simp [D.used]; omega)
    have hk : keepD room z.toNat [] = (0, [⟨markN, F.frame (N.putL z.toNat), 0⟩]) := by
      have : epochD [] = (0, 0, true) := marks_nil
      unfold keepD
      rw [this, if_pos ⟨rfl, by simp⟩, ha]
    rw [hk, if_pos rfl]
    dsimp only
    rw [sync_one]
    refine ⟨_, rfl, ⟨.inr ⟨_, 1, rfl, marks_one h1n h2n, by omega, by omega⟩⟩⟩
  · by_cases hlt : now < z.toNat
    · rw [if_pos hlt]
      have hep : epochD [full markN s] = (now, k, true) := by unfold epochD full; rw [read_one, h0]
      by_cases h20 : k ≤ 20
      · have hk : keepD room z.toNat [full markN s] = (0, [⟨markN, s ++ F.frame (N.putL z.toNat), s.length⟩]) := by
          unfold keepD
          rw [hep, if_pos ⟨rfl, h20⟩]
          exact append_one mark_name (by omega)
        rw [hk, if_pos rfl]
        dsimp only
        rw [sync_one]
        refine ⟨_, rfl, ⟨.inr ⟨_, k + 1, rfl, marks_more h0 h2n hlt, by omega, by rw [List.length_append]; omega⟩⟩⟩
      · have hk : keepD room z.toNat [full markN s] = (0, [full markN (F.frame (N.putL z.toNat))]) := by
          unfold keepD
          rw [hep, if_neg (fun h => h20 h.2)]
          have hd : D.del temp [full markN s] = [full markN s] := D.del_none (by unfold full; rw [D.find, if_neg (show ¬ markN = temp by decide)]; rfl)
          rw [replace_ok mark_name (by rw [hd]; simp) (by rw [hd]; simp [D.used, full]; rw [F.frame_len] at hfl; omega), hd]
          unfold full
          rw [put_one]
        rw [hk, if_pos rfl]
        dsimp only
        rw [full, sync_one]
        exact ⟨_, rfl, ⟨.inr ⟨_, 1, rfl, marks_one h1n h2n, by omega, by omega⟩⟩⟩
    · rw [if_neg hlt, full, sync_one]
      refine ⟨_, rfl, ⟨.inr ⟨s, k, rfl, ?_, hk, hl⟩⟩⟩
      rw [h0, show now = z.toNat by omega]
theorem Ep.low {room : Nat} {l : List D.F} {now : Nat} (h : Ep l now) {z : Int} (h1 : 1 ≤ z) (h2 : z ≤ far) (hn : z < now) : raiseD room z l = (10, l) := by
  unfold raiseD
  rw [if_neg (by omega), h.epoch, if_pos (by omega)]
theorem raise_arg {room : Nat} {z : Int} {l : List D.F} (h : z < 1 ∨ (far : Int) < z) : raiseD room z l = (1, l) := by
  unfold raiseD
  rw [if_pos h]

/-- Any bytes of both files. -/
theorem sync_find {nm : Tx} {l : List D.F} (h : (D.sync nm l).1 = 0) : ∃ f, D.find nm l = some f ∧ (D.sync nm l).2 = D.put (full nm f.data) l := by
  unfold D.sync at h ⊢
  cases hf : D.find nm l with
  | none => rw [hf] at h; cases h
  | some f => exact ⟨f, rfl, rfl⟩
theorem full_find (nm s : Tx) (l : List D.F) : D.find nm (D.put (full nm s) l) = some (full nm s) := D.find_put (f := full nm s) l
theorem read_full {nm s : Tx} {l : List D.F} (h : D.find nm l = some (full nm s)) : D.read nm l = (s, 0) := by unfold D.read; rw [h]; rfl
/-- A Raise that says OK has left the epoch there, synced. -/
theorem raise_ok {room : Nat} {z : Int} {l l2 : List D.F} (H : raiseD room z l = (0, l2)) : (1 ≤ z ∧ z ≤ far) ∧ (epochD l).1 ≤ z.toNat ∧ ∃ s, D.find markN l2 = some (full markN s) ∧ (marksOf s).1 = z.toNat := by
  unfold raiseD at H
  by_cases h1 : z < 1 ∨ (far : Int) < z
  · rw [if_pos h1] at H; cases H
  rw [if_neg h1] at H
  by_cases h2 : z.toNat < (epochD l).1
  · rw [if_pos h2] at H; cases H
  rw [if_neg h2] at H
  refine ⟨by omega, by omega, ?_⟩
  have h1n : 1 ≤ z.toNat := by omega
  have h2n : z.toNat ≤ far := by omega
  by_cases h3 : (epochD l).1 < z.toNat
  · rw [if_pos h3] at H
    by_cases h4 : (keepD room z.toNat l).1 = 0
    · rw [if_pos h4] at H
      obtain ⟨f, hf, hs⟩ := sync_find (nm := markN) (l := (keepD room z.toNat l).2) (by rw [H])
      rw [H] at hs
      dsimp only at hs
      rw [hs, full_find]
      refine ⟨f.data, rfl, ?_⟩
      unfold keepD at h4 hf
      by_cases h5 : (epochD l).2.2 = true ∧ (epochD l).2.1 ≤ 20
      · rw [if_pos h5] at h4 hf
        rw [append_zero h4] at hf
        cases hm : D.find markN l with
        | none =>
          rw [hm] at hf
          dsimp only at hf
          rw [D.find_put (f := ⟨markN, _, 0⟩)] at hf
          cases hf
          dsimp only
          rw [marks_one h1n h2n]
        | some g =>
          rw [hm] at hf
          dsimp only at hf
          rw [D.find_put (f := ⟨markN, _, _⟩)] at hf
          cases hf
          dsimp only
          have hg : marksOf g.data = ((epochD l).1, (epochD l).2.1, true) := by
            have : epochD l = marksOf g.data := by unfold epochD D.read; rw [hm]
            rw [← this, ← h5.1]
          rw [marks_more hg h2n h3]
      · rw [if_neg h5] at h4 hf
        rcases replace_is (room := room) (p := N.putL z.toNat) l mark_name with ⟨_, h7⟩ | ⟨h7, _⟩
        · rw [h7, full_find] at hf
          cases hf
          show (marksOf (F.frame (N.putL z.toNat))).1 = z.toNat
          rw [marks_one h1n h2n]
        · exact absurd h4 h7
    · rw [if_neg h4] at H
      rw [H] at h4
      exact absurd rfl h4
  · rw [if_neg h3] at H
    obtain ⟨f, hf, hs⟩ := sync_find (nm := markN) (l := l) (by rw [H])
    rw [H] at hs
    dsimp only at hs
    rw [hs, full_find]
    refine ⟨f.data, rfl, ?_⟩
    have : epochD l = marksOf f.data := by unfold epochD D.read; rw [hf]
    rw [← this]
    omega
/-- A Raise makes a disk longer by a frame at most. -/
theorem used_sync {nm : Tx} {l : List D.F} (h : D.Sorted l) : D.used (D.sync nm l).2 ≤ D.used l ∧ (D.sync nm l).2.length ≤ l.length := by
  unfold D.sync
  cases hf : D.find nm l with
  | none => exact ⟨Nat.le_refl _, Nat.le_refl _⟩
  | some f =>
    dsimp only
    have h1 := D.used_put (f := ⟨nm, f.data, f.data.length⟩) h
    have h2 := D.length_put (f := ⟨nm, f.data, f.data.length⟩) h
    dsimp only at h1 h2
    rw [hf] at h1 h2
    simp only [D.lenAt] at h1
    rw [if_neg (by simp)] at h2
    omega
theorem used_append {room : Nat} {nm s : Tx} {l : List D.F} (h : D.Sorted l) : D.used (D.append room nm s l).2 ≤ D.used l + s.length ∧ (D.append room nm s l).2.length ≤ l.length + 1 := by
  by_cases h0 : (D.append room nm s l).1 = 0
  · rw [append_zero h0]
    cases hf : D.find nm l with
    | none =>
      dsimp only
      have h1 := D.used_put (f := ⟨nm, s, 0⟩) h
      have h2 := D.length_put (f := ⟨nm, s, 0⟩) h
      dsimp only at h1 h2
      rw [hf] at h1 h2
      simp only [D.lenAt] at h1
      rw [if_pos rfl] at h2
      omega
    | some f =>
      dsimp only
      have h1 := D.used_put (f := ⟨nm, f.data ++ s, f.syn⟩) h
      have h2 := D.length_put (f := ⟨nm, f.data ++ s, f.syn⟩) h
      dsimp only at h1 h2
      rw [hf] at h1 h2
      simp only [D.lenAt, List.length_append] at h1
      rw [if_neg (by simp)] at h2
      omega
  · rw [append_err h0]
    omega
theorem used_del_le {nm : Tx} {l : List D.F} (h : D.Sorted l) : D.used (D.del nm l) ≤ D.used l ∧ (D.del nm l).length ≤ l.length := by
  have h1 := D.used_del (n := nm) h
  have h2 := D.length_del (n := nm) h
  omega
theorem used_full {nm s : Tx} {l : List D.F} (h : D.Sorted l) : D.used (D.put (full nm s) l) ≤ D.used l + s.length ∧ (D.put (full nm s) l).length ≤ l.length + 1 := by
  have h1 := D.used_put (f := full nm s) h
  have h2 := D.length_put (f := full nm s) h
  rw [show (full nm s).data = s from rfl] at h1
  split at h2 <;> omega
theorem used_replace {room : Nat} {nm p : Tx} {l : List D.F} (hn : nameL nm = true) (h : D.Sorted l) : D.used (replaceD room nm p l).2 ≤ D.used l + (p.length + 8) ∧ (replaceD room nm p l).2.length ≤ l.length + 1 := by
  have h1 := used_del_le (nm := temp) h
  rcases replace_is (room := room) (p := p) l hn with ⟨_, h7⟩ | ⟨_, h7⟩
  · rw [h7]
    have h2 := used_full (nm := nm) (s := F.frame p) (D.sorted_del (n := temp) h)
    rw [F.frame_len] at h2
    omega
  · rw [h7]
    omega
theorem used_raise {room : Nat} {z : Int} {l : List D.F} (h : D.Inv room l) : D.used (raiseD room z l).2 ≤ D.used l + 14 ∧ (raiseD room z l).2.length ≤ l.length + 1 := by
  unfold raiseD
  by_cases h1 : z < 1 ∨ (far : Int) < z
  · rw [if_pos h1]; dsimp only; omega
  rw [if_neg h1]
  by_cases h2 : z.toNat < (epochD l).1
  · rw [if_pos h2]; dsimp only; omega
  rw [if_neg h2]
  have hfl := frame_le (e := z.toNat) (by omega)
  have hk : D.used (keepD room z.toNat l).2 ≤ D.used l + 14 ∧ (keepD room z.toNat l).2.length ≤ l.length + 1 := by
    unfold keepD
    split
    · have := used_append (room := room) (nm := markN) (s := F.frame (N.putL z.toNat)) h.sorted
      omega
    · have := used_replace (room := room) (p := N.putL z.toNat) mark_name h.sorted
      rw [F.frame_len] at hfl
      omega
  split
  · split
    · have := used_sync (nm := markN) (keep_inv (room := room) (e := z.toNat) h).sorted
      omega
    · exact hk
  · have := used_sync (nm := markN) h.sorted
    omega
/-- The law's disk: two files of any bytes. -/
theorem two_inv {s t : Tx} (hs : s.length ≤ 2000) (ht : t.length ≤ 2000) : D.append 100000 fileN s [] = (0, [⟨fileN, s, 0⟩]) ∧ D.append 100000 markN t [⟨fileN, s, 0⟩] = (0, [⟨markN, t, 0⟩, ⟨fileN, s, 0⟩]) := by
  have hf : D.find markN [⟨fileN, s, 0⟩] = none := by rw [D.find, if_neg (show ¬ fileN = markN by decide)]; rfl
  refine ⟨append_new (by decide +kernel) rfl (by simp) (by simp [D.used]; omega), ?_⟩
  rw [append_new mark_name hf (by simp) (by simp [D.used]; omega)]
  unfold D.put
  rw [if_neg (show ¬ D.lt fileN markN = true by decide +kernel), if_neg (show ¬ fileN = markN by decide)]
theorem two_facts {s t : Tx} (hs : s.length ≤ 2000) (ht : t.length ≤ 2000) : D.Inv 100000 [⟨fileN, s, 0⟩] ∧ D.Inv 100000 [⟨markN, t, 0⟩, ⟨fileN, s, 0⟩] ∧ D.used [⟨markN, t, 0⟩, ⟨fileN, s, 0⟩] ≤ 4000 := by
  have h1 := two_inv hs ht
  have h2 := (D.inv_nil 100000).append (n := fileN) (s := s)
  rw [h1.1] at h2
  have h3 := h2.append (n := markN) (s := t)
  dsimp only at h3
  rw [h1.2] at h3
  exact ⟨h2, h3, by simp [D.used]; omega⟩
theorem two_load (s t : Tx) : loadD [⟨markN, t, 0⟩, ⟨fileN, s, 0⟩] = match loadL s with | none => (2, 0, []) | some x => (0, x) := by
  have hf : D.find fileN [⟨markN, t, 0⟩, ⟨fileN, s, 0⟩] = some ⟨fileN, s, 0⟩ := by rw [D.find, if_neg (show ¬ markN = fileN by decide), D.find, if_pos rfl]
  unfold loadD
  rw [hf] <;> rfl
theorem tells_save {l : List D.F} (h : D.Inv 100000 l) (hu : D.used l ≤ 9000) (hl : l.length ≤ 30) (ks : List Int) : ∃ l2, saveD 100000 9 [2, 5] l = (0, l2) ∧ loadD (D.crash ks l2) = (0, 9, [2, 5]) := by
  have hr : right 9 [2, 5] = true := by decide
  have hd := used_del_le (nm := temp) h.sorted
  have hp := (payload_good hr).2
  have h1 : saveD 100000 9 [2, 5] l = (0, D.put (full fileN (F.frame (payload 9 [2, 5]))) (D.del temp l)) := by
    unfold saveD
    rw [if_pos hr]
    exact replace_ok (by decide +kernel) (by omega) (by omega)
  refine ⟨_, h1, ?_⟩
  have hf := crash_find (ks := ks) (full_find fileN (F.frame (payload 9 [2, 5])) (D.del temp l)) rfl
  unfold loadD
  rw [hf]
  dsimp only
  rw [show (full fileN (F.frame (payload 9 [2, 5]))).data = F.frame (payload 9 [2, 5]) from rfl, load_frame hr]
  rfl
theorem tells_raise {z : Int} {l l2 : List D.F} (H : raiseD 100000 z l = (0, l2)) (ks : List Int) : (epochD (D.crash ks l2)).1 = z.toNat ∧ ((epochD l).1 : Int) ≤ z := by
  obtain ⟨h1, h2, s, h3, h4⟩ := raise_ok H
  refine ⟨?_, by omega⟩
  unfold epochD
  rw [read_full (crash_find h3 rfl), h4]
end Go.Proofs.YtmfhipjceeijmaaGreat.A

/-
  How the document's answer to chapter 10 reads numbers and epochs, over lists of bytes, and that it is the same. No program in this text.
-/
namespace Go.Proofs.YtmfhipjceeijmaaGreat.A
open D (Tx)

/-- All numbers of bytes; none: they are not numbers alone. -/
def numsF : Nat → Tx → Option (List Nat)
  | _, [] => some []
  | 0, _ :: _ => none
  | f + 1, c :: s => match N.takeL (c :: s) with
    | .inl (n, r) => match numsF f r with
      | some l => some (n :: l)
      | none => none
    | .inr _ => none
theorem take_less {s r : Tx} {n : Nat} (h : N.takeL s = .ok n r) : r.length < s.length := by
  have h1 := N.take_inv h
  have := N.putL_pos n
  rw [h1.1, List.length_append]
  omega
theorem numsF_eq : ∀ (f g : Nat) (s : Tx), s.length ≤ f → s.length ≤ g → numsF f s = numsF g s
  | 0, _, [], _, _ => by unfold numsF; rfl
  | 0, _, _ :: _, h, _ => by simp at h
  | _ + 1, 0, [], _, _ => by unfold numsF; rfl
  | _ + 1, 0, _ :: _, _, h => by simp at h
  | f + 1, g + 1, [], _, _ => by unfold numsF; rfl
  | f + 1, g + 1, c :: s, h1, h2 => by
    unfold numsF
    rcases N.takeL_cases (c :: s) with ⟨e, h⟩ | ⟨n, r, h⟩
    · rw [h]
    · rw [h]
      have := take_less h
      simp only [List.length_cons] at h1 h2 this
      have e := numsF_eq f g r (by omega) (by omega)
      simp only
      rw [e]
def nums (s : Tx) : Option (List Nat) := numsF s.length s
theorem nums_nil : nums [] = some [] := rfl
theorem nums_bad {s : Tx} {e : Nat} (hs : s ≠ []) (h : N.takeL s = .bad e) : nums s = none := by
  cases s with
  | nil => exact absurd rfl hs
  | cons c s =>
    unfold nums
    rw [List.length_cons]
    unfold numsF
    rw [h]
theorem nums_ok {s r : Tx} {n : Nat} (h : N.takeL s = .ok n r) : nums s = match nums r with | some l => some (n :: l) | none => none := by
  cases s with
  | nil => exact absurd (take_less h) (by simp)
  | cons c s =>
    have h2 := take_less h
    unfold nums
    rw [List.length_cons]
    conv => lhs; unfold numsF
    rw [h]
    simp only
    rw [numsF_eq s.length r.length r (by simp only [List.length_cons] at h2; omega) (Nat.le_refl _)]
theorem steps_false : ∀ (k : Nat) (s : Tx), (steps k (s, false)).2.2 = false
  | 0, _ => rfl
  | k + 1, s => by
    rw [steps]
    rcases N.takeL_cases s with ⟨e, h⟩ | ⟨n, r, h⟩
    · rw [step_bad false h]; exact steps_false k []
    · rw [step_ok false h]; exact steps_false k r
theorem steps_nums : ∀ (k : Nat) (s : Tx) (xs : List Nat), steps k (s, true) = (xs, (([] : Tx), true)) → nums s = some xs
  | 0, s, xs, h => by
    rw [steps] at h
    cases h
    exact nums_nil
  | k + 1, s, xs, h => by
    rw [steps] at h
    rcases N.takeL_cases s with ⟨e, ht⟩ | ⟨n, r, ht⟩
    · rw [step_bad true ht] at h
      have h2 := steps_false k []
      have h3 : (steps k (([] : Tx), false)).2 = (([] : Tx), true) := congrArg Prod.snd h
      rw [h3] at h2
      cases h2
    · rw [step_ok true ht] at h
      obtain ⟨⟨ys, st⟩, hq⟩ : ∃ q, steps k (r, true) = q := ⟨_, rfl⟩
      rw [hq] at h
      cases h
      rw [nums_ok ht, steps_nums k r ys hq]
theorem nums_steps : ∀ (xs : List Nat) (s : Tx), nums s = some xs → steps xs.length (s, true) = (xs, (([] : Tx), true))
  | [], s, h => by
    cases s with
    | nil => rfl
    | cons c s =>
      rcases N.takeL_cases (c :: s) with ⟨e, ht⟩ | ⟨n, r, ht⟩
      · rw [nums_bad (by simp) ht] at h; cases h
      · rw [nums_ok ht] at h
        cases hn : nums r with
        | none => rw [hn] at h; cases h
        | some l => rw [hn] at h; cases h
  | x :: xs, s, h => by
    cases s with
    | nil => rw [nums_nil] at h; cases h
    | cons c s =>
      rcases N.takeL_cases (c :: s) with ⟨e, ht⟩ | ⟨n, r, ht⟩
      · rw [nums_bad (by simp) ht] at h; cases h
      · rw [nums_ok ht] at h
        cases hn : nums r with
        | none => rw [hn] at h; cases h
        | some l =>
          rw [hn] at h
          cases h
          have := nums_steps xs r hn
          rw [List.length_cons, steps, step_ok true ht]
          show (x :: (steps xs.length (r, true)).1, (steps xs.length (r, true)).2) = _
          rw [this]
theorem nums_bound : ∀ (f : Nat) (s : Tx) (xs : List Nat), numsF f s = some xs → ∀ n ∈ xs, n ≤ 1099511627776
  | f, [], xs, h, n, hn => by
    have : numsF f [] = some [] := by unfold numsF; rfl
    rw [this] at h
    cases h
    cases hn
  | 0, _ :: _, xs, h, n, hn => by unfold numsF at h; cases h
  | f + 1, c :: s, xs, h, n, hn => by
    unfold numsF at h
    rcases N.takeL_cases (c :: s) with ⟨e, ht⟩ | ⟨m, r, ht⟩
    · rw [ht] at h; cases h
    · rw [ht] at h
      simp only at h
      cases hq : numsF f r with
      | none => rw [hq] at h; cases h
      | some l =>
        rw [hq] at h
        cases h
        rcases List.mem_cons.1 hn with rfl | hn
        · exact (N.take_inv ht).2
        · exact nums_bound f r l hq n hn
/-- What is read of a payload, as the answer reads it. -/
def loadN (p : Tx) : Option (Nat × List Nat) := match nums p with
  | some (a :: c :: xs) => if c = xs.length ∧ right (a : Int) (castL xs) = true then some (a, xs) else none
  | _ => none
theorem loadP_none {p : Tx} (h : ∀ x, loadP p = some x → False) : loadP p = none := by
  cases hp : loadP p with
  | none => rfl
  | some x => exact absurd hp fun e => h x e
theorem loadN_eq (p : Tx) : loadN p = loadP p := by
  have key : ∀ (a : Nat) (xs : List Nat), loadP p = some (a, xs) → nums p = some (a :: xs.length :: xs) ∧ right (a : Int) (castL xs) = true := fun a xs h => by
    have hr := loadP_right h
    obtain ⟨⟨n1, s1⟩, h1⟩ : ∃ q, step (p, true) = q := ⟨_, rfl⟩
    obtain ⟨⟨c, s2⟩, h2⟩ : ∃ q, step s1 = q := ⟨_, rfl⟩
    unfold loadP at h
    rw [h1] at h
    dsimp only at h
    rw [h2] at h
    dsimp only at h
    split at h
    · cases h
    split at h
    · rename_i hc
      cases h
      have h3 : steps c s2 = ((steps c s2).1, (([] : Tx), true)) := Prod.ext rfl hc.1
      have hl := steps_len c s2
      refine ⟨?_, hr⟩
      rw [hl]
      refine steps_nums (c + 2) p _ ?_
      rw [steps, h1]
      show (a :: (steps (c + 1) s1).1, (steps (c + 1) s1).2) = _
      rw [steps, h2]
      show (a :: c :: (steps c s2).1, (steps c s2).2) = _
      rw [hc.1]
    · cases h
  have back : ∀ (a : Nat) (xs : List Nat), nums p = some (a :: xs.length :: xs) → right (a : Int) (castL xs) = true → loadP p = some (a, xs) := fun a xs hn hr => by
    have h := nums_steps _ _ hn
    have hl := (right_iff.1 hr).2.1
    rw [castL_len] at hl
    obtain ⟨⟨n1, s1⟩, h1⟩ : ∃ q, step (p, true) = q := ⟨_, rfl⟩
    obtain ⟨⟨c, s2⟩, h2⟩ : ∃ q, step s1 = q := ⟨_, rfl⟩
    rw [List.length_cons, List.length_cons, steps, h1] at h
    have h' : (n1 :: (steps (xs.length + 1) s1).1, (steps (xs.length + 1) s1).2) = (a :: xs.length :: xs, (([] : Tx), true)) := h
    rw [steps, h2] at h'
    have h'' : (n1 :: c :: (steps xs.length s2).1, (steps xs.length s2).2) = (a :: xs.length :: xs, (([] : Tx), true)) := h'
    injection h'' with e1 e2
    injection e1 with e3 e4
    injection e4 with e5 e6
    subst e3
    subst e5
    unfold loadP
    rw [h1]
    dsimp only
    rw [h2]
    dsimp only
    rw [if_neg (by omega), e6, e2, if_pos ⟨rfl, hr⟩]
  unfold loadN
  split
  · rename_i a c xs hn
    by_cases hc : c = xs.length ∧ right (a : Int) (castL xs) = true
    · rw [if_pos hc]
      obtain ⟨rfl, hr⟩ := hc
      exact (back a xs hn hr).symm
    · rw [if_neg hc]
      refine (loadP_none fun x hx => ?_).symm
      obtain ⟨a2, xs2⟩ := x
      obtain ⟨h3, h4⟩ := key a2 xs2 hx
      rw [hn] at h3
      cases h3
      exact hc ⟨rfl, h4⟩
  · rename_i hn
    refine (loadP_none fun x hx => ?_).symm
    obtain ⟨a2, xs2⟩ := x
    exact hn _ _ _ (key a2 xs2 hx).1

/-- The epochs as the answer reads them: those that rise, how many bytes they have. -/
def epsF : Nat → List Tx → List Nat × Nat
  | _, [] => ([], 0)
  | a, p :: l => match epochOf p with
    | some e => if a < e then (e :: (epsF e l).1, 8 + p.length + (epsF e l).2) else ([], 0)
    | none => ([], 0)
theorem epsF_some {p : Tx} {e : Nat} (a : Nat) (l : List Tx) (h : epochOf p = some e) : epsF a (p :: l) = if a < e then (e :: (epsF e l).1, 8 + p.length + (epsF e l).2) else ([], 0) := by rw [epsF, h]
theorem epsF_none {p : Tx} (a : Nat) (l : List Tx) (h : epochOf p = none) : epsF a (p :: l) = ([], 0) := by rw [epsF, h]
def sizes (l : List Tx) : Nat := (l.map fun p => p.length + 8).sum
theorem eps_marks : ∀ (l : List Tx) (a k : Nat), (marksF a k l).1 = (epsF a l).1.getLast?.getD a ∧ (marksF a k l).2.1 = k + (epsF a l).1.length ∧ (epsF a l).2 ≤ sizes l ∧ ((marksF a k l).2.2 = true ↔ (epsF a l).2 = sizes l)
  | [], a, k => by simp [marksF, epsF, sizes]
  | p :: l, a, k => by
    have hs : sizes (p :: l) = p.length + 8 + sizes l := by simp [sizes]
    cases he : epochOf p with
    | none =>
      rw [marksF_none a k l he, epsF_none a l he, hs]
      simp
      omega
    | some e =>
      rw [marksF_some a k l he, epsF_some a l he, hs]
      by_cases hl : a < e
      · rw [if_pos hl, if_pos hl]
        obtain ⟨h1, h2, h3, h4⟩ := eps_marks l e (k + 1)
        refine ⟨?_, ?_, by dsimp only; omega, ?_⟩
        · rw [h1]
          cases h : (epsF e l).1 with
          | nil => simp
          | cons x xs => simp [List.getLast?_cons]
        · rw [h2]; simp; omega
        · rw [h4]; dsimp only; omega
      · rw [if_neg hl, if_neg hl]
        simp
        omega
theorem scan_size : ∀ (f : Nat) (s : Tx), (F.scanF f s).2 = sizes (F.scanF f s).1
  | 0, s => by simp [F.scanF, sizes]
  | f + 1, s => by
    rcases F.take_cases s with ⟨e, h, _⟩ | ⟨p, r, h⟩
    · rw [F.scanF_bad h]; simp [sizes]
    · rw [F.scanF_ok h]
      have := scan_size f r
      simp only [sizes, List.map_cons, List.sum_cons] at this ⊢
      omega
/-- The answer's way to the same marks. -/
theorem marks_eps {s : Tx} {out : List Nat} {size : Nat} (h : epsF 0 (F.scan s).1 = (out, size)) : (marksOf s).1 = out.getLast?.getD 0 ∧ (marksOf s).2.1 = out.length ∧ ((marksOf s).2.2 = true ↔ size = s.length) := by
  obtain ⟨h1, h2, h3, h4⟩ := eps_marks (F.scan s).1 0 0
  rw [h] at h1 h2 h3 h4
  dsimp only at h1 h2 h3 h4
  have h5 := scan_size s.length s
  have h6 := F.scan_le s
  have h7 : (F.scan s).2 = sizes (F.scan s).1 := h5
  refine ⟨h1, by show (marksF 0 0 (F.scan s).1).2.1 = _; rw [h2]; omega, ?_⟩
  show ((marksF 0 0 (F.scan s).1).2.2 && decide ((F.scan s).2 = s.length)) = true ↔ _
  rw [Bool.and_eq_true, decide_eq_true_eq, h4]
  omega
theorem epsF_bound : ∀ (l : List Tx) (a : Nat), ∀ n ∈ (epsF a l).1, n ≤ far
  | [], _, n, h => by cases h
  | p :: l, a, n, h => by
    cases he : epochOf p with
    | none => rw [epsF_none a l he] at h; cases h
    | some e =>
      rw [epsF_some a l he] at h
      split at h
      · rcases List.mem_cons.1 h with rfl | h
        · exact (epoch_some he).2.1
        · exact epsF_bound l e n h
      · cases h
theorem epsF_len : ∀ (l : List Tx) (a : Nat), (epsF a l).1.length ≤ l.length
  | [], _ => Nat.le_refl _
  | p :: l, a => by
    cases he : epochOf p with
    | none => rw [epsF_none a l he]; simp
    | some e =>
      rw [epsF_some a l he]
      split
      · have := epsF_len l e
        simp only [List.length_cons]
        omega
      · simp
end Go.Proofs.YtmfhipjceeijmaaGreat.A
