/-
  The manifest and the mark of epochs, over lists of bytes and the disk's lists. No program in this text.
-/
import Derived.Test.YtmfhipjceeijmaaNumSpec
import Derived.Test.YtmfhipjceeijmaaFrameMore
import Derived.Test.YtmfhipjceeijmaaDiskSpec
namespace Go.Proofs.Ytmfhipjceeijmaa.A
open D (Tx)

def temp : Tx := [116, 101, 109, 112]
def fileN : Tx := [109, 97, 110, 105, 102, 101, 115, 116]
def markN : Tx := [101, 112, 111, 99, 104]
def far : Nat := 274877906944

/-- Numbers that rise, each less than next. -/
def rises (last next : Int) : List Int → Bool
  | [] => true
  | n :: l => decide (last < n ∧ n < next) && rises n next l
def right (next : Int) (segs : List Int) : Bool := decide (1 ≤ next ∧ next ≤ 1073741824) && (decide (segs.length ≤ 30) && rises 0 next segs)
theorem rises_all {next : Int} : ∀ {l : List Int} {last : Int}, rises last next l = true → ∀ n ∈ l, last < n ∧ n < next
  | [], _, _, n, hn => by cases hn
  | m :: l, last, h, n, hn => by
    rw [rises, Bool.and_eq_true, decide_eq_true_eq] at h
    rcases List.mem_cons.1 hn with rfl | hn
    · exact h.1
    · have := rises_all h.2 n hn
      omega
theorem right_iff {next : Int} {segs : List Int} : right next segs = true ↔ (1 ≤ next ∧ next ≤ 1073741824) ∧ segs.length ≤ 30 ∧ rises 0 next segs = true := by
  simp [right]
theorem right_segs {next : Int} {segs : List Int} (h : right next segs = true) : ∀ n ∈ segs, 1 ≤ n ∧ n < 1073741824 := fun n hn => by
  have h1 := right_iff.1 h
  have := rises_all h1.2.2 n hn
  omega
def putsI (l : List Int) : Tx := l.flatMap fun n => N.putL n.toNat
theorem putsI_nil : putsI [] = [] := rfl
theorem putsI_cons (n : Int) (l : List Int) : putsI (n :: l) = N.putL n.toNat ++ putsI l := by unfold putsI; rw [List.flatMap_cons]
theorem putsI_append (a b : List Int) : putsI (a ++ b) = putsI a ++ putsI b := by unfold putsI; rw [List.flatMap_append]
theorem putsI_step {l : List Int} {k : Nat} (h : k < l.length) : putsI (l.take (k + 1)) = putsI (l.take k) ++ N.putL l[k].toNat := by
  rw [List.take_succ_eq_append_getElem h, putsI_append, putsI_cons, putsI_nil, List.append_nil]
theorem putsI_len : ∀ {l : List Int}, (∀ n ∈ l, n ≤ 1099511627776) → (putsI l).length ≤ 6 * l.length
  | [], _ => by simp [putsI]
  | n :: l, h => by
    have h1 := N.putL_len6 (m := n.toNat) (by have := h n (by simp); omega)
    have h2 := putsI_len (l := l) fun m hm => h m (by simp [hm])
    rw [putsI_cons, List.length_append, List.length_cons]
    omega
/-- A manifest's payload. -/
def payload (next : Int) (segs : List Int) : Tx := N.putL next.toNat ++ (N.putL segs.length ++ putsI segs)
theorem payload_good {next : Int} {segs : List Int} (h : right next segs = true) : F.good (payload next segs) ∧ (payload next segs).length ≤ 192 := by
  have h1 := right_iff.1 h
  have h2 := putsI_len (l := segs) fun n hn => by have := right_segs h n hn; omega
  have h3 := N.putL_len6 (m := next.toNat) (by omega)
  have h4 := N.putL_pos next.toNat
  have h5 := N.putL_len6 (m := segs.length) (by omega)
  have hl : (payload next segs).length = (N.putL next.toNat).length + ((N.putL segs.length).length + (putsI segs).length) := by
    unfold payload; rw [List.length_append, List.length_append]
  unfold F.good
  omega

/-- A number off the front; what is left, whether nothing was wrong. -/
abbrev Stt := Tx × Bool
def step (s : Stt) : Nat × Stt := match N.takeL s.1 with | .inl (n, r) => (n, r, s.2) | .inr _ => (0, [], false)
theorem step_ok {s r : Tx} {n : Nat} (b : Bool) (h : N.takeL s = .ok n r) : step (s, b) = (n, r, b) := by simp only [step, h, N.Tk.ok]
theorem step_bad {s : Tx} {e : Nat} (b : Bool) (h : N.takeL s = .bad e) : step (s, b) = (0, [], false) := by simp only [step, h, N.Tk.bad]
theorem step_put {n : Nat} (h : n ≤ 1099511627776) (r : Tx) (b : Bool) : step (N.putL n ++ r, b) = (n, r, b) := step_ok b (N.take_put h r)
theorem step_le (s : Stt) : (step s).1 ≤ 1099511627776 ∧ (step s).2.1.length ≤ s.1.length := by
  obtain ⟨s, b⟩ := s
  rcases N.takeL_cases s with ⟨e, h⟩ | ⟨n, r, h⟩
  · rw [step_bad b h]; simp
  · rw [step_ok b h]
    have := N.take_inv h
    refine ⟨this.2, ?_⟩
    show r.length ≤ s.length
    rw [this.1, List.length_append]
    omega
def steps : Nat → Stt → List Nat × Stt
  | 0, s => ([], s)
  | k + 1, s => ((step s).1 :: (steps k (step s).2).1, (steps k (step s).2).2)
theorem steps_len : ∀ (k : Nat) (s : Stt), (steps k s).1.length = k
  | 0, _ => rfl
  | k + 1, s => by rw [steps, List.length_cons, steps_len k]
theorem steps_snoc : ∀ (k : Nat) (s : Stt), steps (k + 1) s = ((steps k s).1 ++ [(step (steps k s).2).1], (step (steps k s).2).2)
  | 0, s => rfl
  | k + 1, s => by
    have h := steps_snoc k (step s).2
    rw [steps, h]
    rfl
theorem steps_short : ∀ (k : Nat) (s : Stt), (steps k s).2.1.length ≤ s.1.length
  | 0, s => Nat.le_refl _
  | k + 1, s => by
    have h1 := steps_short k (step s).2
    have h2 := (step_le s).2
    rw [steps]
    exact Nat.le_trans h1 h2
theorem steps_puts : ∀ (l : List Int) (r : Tx) (b : Bool), (∀ n ∈ l, n ≤ 1099511627776) → steps l.length (putsI l ++ r, b) = (l.map Int.toNat, r, b)
  | [], r, b, _ => rfl
  | n :: l, r, b, h => by
    have h1 := step_put (n := n.toNat) (by have := h n (by simp); omega) (putsI l ++ r) b
    have h2 := steps_puts l r b fun m hm => h m (by simp [hm])
    rw [List.length_cons, putsI_cons, List.append_assoc, steps, h1]
    show (n.toNat :: (steps l.length (putsI l ++ r, b)).1, (steps l.length (putsI l ++ r, b)).2) = _
    rw [h2]
    rfl
/-- A manifest of its payload. -/
def castL (l : List Nat) : List Int := l.map Int.ofNat
def loadP (p : Tx) : Option (Nat × List Nat) :=
  if 30 < (step (step (p, true)).2).1 then none
  else if (steps (step (step (p, true)).2).1 (step (step (p, true)).2).2).2 = (([] : Tx), true) ∧ right (step (p, true)).1 (castL (steps (step (step (p, true)).2).1 (step (step (p, true)).2).2).1) = true
    then some ((step (p, true)).1, (steps (step (step (p, true)).2).1 (step (step (p, true)).2).2).1) else none
def loadL (s : Tx) : Option (Nat × List Nat) := match F.take s with | .inl (p, []) => loadP p | _ => none
theorem loadL_ok {s p : Tx} (h : F.take s = .ok p []) : loadL s = loadP p := by simp only [loadL, h, F.Tk.ok]
theorem loadL_rest {s p r : Tx} (h : F.take s = .ok p r) (hr : r ≠ []) : loadL s = none := by
  cases r with
  | nil => exact absurd rfl hr
  | cons c r => simp only [loadL, h, F.Tk.ok]
theorem loadL_bad {s : Tx} {e : Nat} (h : F.take s = .bad e) : loadL s = none := by simp only [loadL, h, F.Tk.bad]
theorem loadP_right {p : Tx} {n : Nat} {l : List Nat} (h : loadP p = some (n, l)) : right n (castL l) = true := by
  unfold loadP at h
  split at h
  · cases h
  · split at h
    · rename_i hc
      cases h
      exact hc.2
    · cases h
theorem loadL_right {s : Tx} {n : Nat} {l : List Nat} (h : loadL s = some (n, l)) : right n (castL l) = true := by
  rcases F.take_cases s with ⟨e, hs, _⟩ | ⟨p, r, hs⟩
  · rw [loadL_bad hs] at h; cases h
  · by_cases hr : r = []
    · subst hr
      rw [loadL_ok hs] at h
      exact loadP_right h
    · rw [loadL_rest hs hr] at h; cases h
theorem cast_nat {l : List Int} (h : ∀ n ∈ l, 0 ≤ n) : castL (l.map Int.toNat) = l := by
  unfold castL
  rw [List.map_map]
  conv => rhs; rw [← List.map_id l]
  exact List.map_congr_left fun n hn => by
    show ((n.toNat : Nat) : Int) = n
    exact Int.toNat_of_nonneg (h n hn)
theorem loadP_payload {next : Int} {segs : List Int} (h : right next segs = true) : loadP (payload next segs) = some (next.toNat, segs.map Int.toNat) := by
  have h1 := right_iff.1 h
  have hs := right_segs h
  have e1 : step (payload next segs, true) = (next.toNat, N.putL segs.length ++ putsI segs, true) := step_put (by omega) _ _
  have e2 : step (N.putL segs.length ++ putsI segs, true) = (segs.length, putsI segs, true) := step_put (by omega) _ _
  have e3 : steps segs.length (putsI segs, true) = (segs.map Int.toNat, [], true) := by
    have := steps_puts segs [] true fun n hn => by have := hs n hn; omega
    rwa [List.append_nil] at this
  unfold loadP
  rw [e1]
  dsimp only
  rw [e2]
  dsimp only
  rw [e3]
  dsimp only
  rw [if_neg (by omega), cast_nat fun n hn => by have := hs n hn; omega, Int.toNat_of_nonneg (by omega), if_pos ⟨rfl, h⟩]
theorem load_frame {next : Int} {segs : List Int} (h : right next segs = true) : loadL (F.frame (payload next segs)) = some (next.toNat, segs.map Int.toNat) := by
  have ht := F.take_frame (payload_good h).1 []
  rw [List.append_nil] at ht
  rw [loadL_ok ht, loadP_payload h]

/-- An epoch of a payload; of what Mark has: the last one, in how many frames, nothing else. -/
def epochOf (p : Tx) : Option Nat := match N.takeL p with | .inl (n, []) => if 1 ≤ n ∧ n ≤ far then some n else none | _ => none
def marksF : Nat → Nat → List Tx → Nat × Nat × Bool
  | a, k, [] => (a, k, true)
  | a, k, p :: l => match epochOf p with
    | some e => if a < e then marksF e (k + 1) l else (a, k, false)
    | none => (a, k, false)
def marksOf (s : Tx) : Nat × Nat × Bool := ((marksF 0 0 (F.scan s).1).1, (marksF 0 0 (F.scan s).1).2.1, (marksF 0 0 (F.scan s).1).2.2 && decide ((F.scan s).2 = s.length))
theorem epoch_some {p : Tx} {e : Nat} (h : epochOf p = some e) : 1 ≤ e ∧ e ≤ far ∧ p = N.putL e := by
  unfold epochOf at h
  split at h
  · rename_i n hn
    split at h
    · rename_i hb
      cases h
      have := N.take_inv hn
      rw [List.append_nil] at this
      exact ⟨hb.1, hb.2, this.1⟩
    · cases h
  · cases h
theorem epoch_put {e : Nat} (h1 : 1 ≤ e) (h2 : e ≤ far) : epochOf (N.putL e) = some e := by
  have := N.take_put (n := e) (by unfold far at h2; omega) []
  rw [List.append_nil] at this
  unfold epochOf
  rw [this]
  simp only
  rw [if_pos ⟨h1, h2⟩]
theorem marksF_some {p : Tx} {e : Nat} (a k : Nat) (l : List Tx) (h : epochOf p = some e) : marksF a k (p :: l) = if a < e then marksF e (k + 1) l else (a, k, false) := by rw [marksF, h]
theorem marksF_none {p : Tx} (a k : Nat) (l : List Tx) (h : epochOf p = none) : marksF a k (p :: l) = (a, k, false) := by rw [marksF, h]
theorem marksF_le : ∀ (l : List Tx) (a k : Nat), a ≤ far → (marksF a k l).1 ≤ far ∧ (marksF a k l).2.1 ≤ k + l.length
  | [], a, k, h => by simpa [marksF] using h
  | p :: l, a, k, h => by
    unfold marksF
    cases he : epochOf p with
    | none => simpa using h
    | some e =>
      dsimp only
      split
      · have := marksF_le l e (k + 1) (epoch_some he).2.1
        rw [List.length_cons]
        omega
      · simpa using h
theorem marks_le (s : Tx) : (marksOf s).1 ≤ far ∧ (marksOf s).2.1 ≤ s.length := by
  have h1 := marksF_le (F.scan s).1 0 0 (Nat.zero_le _)
  have h2 := F.scan_count s
  unfold marksOf
  dsimp only
  omega
theorem marksF_append : ∀ (l : List Tx) (a k : Nat), (marksF a k l).2.2 = true → ∀ m, marksF a k (l ++ m) = marksF (marksF a k l).1 (marksF a k l).2.1 m
  | [], a, k, _, m => rfl
  | p :: l, a, k, h, m => by
    rw [List.cons_append]
    cases he : epochOf p with
    | none => rw [marksF_none a k l he] at h; cases h
    | some e =>
      rw [marksF_some a k l he] at h ⊢
      rw [marksF_some a k _ he]
      by_cases hl : a < e
      · rw [if_pos hl] at h ⊢
        rw [if_pos hl]
        exact marksF_append l e (k + 1) h m
      · rw [if_neg hl] at h
        cases h
theorem scan_nil : F.scan [] = ([], 0) := F.scan_bad (F.take_few (by simp))
theorem scan_append : ∀ (s t : Tx), (F.scan s).2 = s.length → F.scan (s ++ t) = ((F.scan s).1 ++ (F.scan t).1, (F.scan s).2 + (F.scan t).2) := fun s => by
  suffices hs : ∀ (n : Nat) (s : Tx), s.length ≤ n → ∀ t, (F.scan s).2 = s.length → F.scan (s ++ t) = ((F.scan s).1 ++ (F.scan t).1, (F.scan s).2 + (F.scan t).2) from hs s.length s (Nat.le_refl _)
  intro n
  induction n with
  | zero =>
    intro s hs t _
    obtain rfl : s = [] := List.length_eq_zero_iff.1 (by omega)
    rw [scan_nil]
    simp
  | succ n ih =>
    intro s hs t h
    rcases F.take_cases s with ⟨e, h1, _⟩ | ⟨p, r, h1⟩
    · rw [F.scan_bad h1] at h
      dsimp only at h
      obtain rfl : s = [] := List.length_eq_zero_iff.1 h.symm
      rw [scan_nil]
      simp
    · obtain ⟨rfl, hg⟩ := F.take_inv h1
      rw [F.scan_ok h1, List.length_append, F.frame_len] at h
      dsimp only at h
      have hr := ih r (by rw [List.length_append, F.frame_len] at hs; omega) t (by omega)
      rw [List.append_assoc, F.scan_frame hg, hr, F.scan_frame hg]
      dsimp only
      rw [List.cons_append, Nat.add_assoc (p.length + 8)]
theorem scan_one {p : Tx} (h : F.good p) : F.scan (F.frame p) = ([p], p.length + 8) := by
  have := F.scan_row_all (l := [p]) fun q hq => by rw [List.mem_singleton] at hq; subst hq; exact h
  rw [F.frames_cons, F.frames_nil, List.append_nil, F.frame_len] at this
  exact this
theorem put_good {e : Nat} (h2 : e ≤ far) : F.good (N.putL e) ∧ (N.putL e).length ≤ 6 := by
  have h3 := N.putL_len6 (m := e) (by unfold far at h2; omega)
  have := N.putL_pos e
  unfold F.good
  omega
theorem marks_one {e : Nat} (h1 : 1 ≤ e) (h2 : e ≤ far) : marksOf (F.frame (N.putL e)) = (e, 1, true) := by
  unfold marksOf
  rw [scan_one (put_good h2).1, F.frame_len]
  dsimp only
  rw [marksF, epoch_put h1 h2]
  dsimp only
  rw [if_pos (by omega), marksF]
  simp
theorem marks_more {s : Tx} {a k e : Nat} (h : marksOf s = (a, k, true)) (h2 : e ≤ far) (ha : a < e) : marksOf (s ++ F.frame (N.putL e)) = (e, k + 1, true) := by
  have h1 : 1 ≤ e := by omega
  have h3 : (marksF 0 0 (F.scan s).1).1 = a := congrArg Prod.fst h
  have h4 : (marksF 0 0 (F.scan s).1).2.1 = k := congrArg (fun x => x.2.1) h
  have h5 : ((marksF 0 0 (F.scan s).1).2.2 && decide ((F.scan s).2 = s.length)) = true := congrArg (fun x => x.2.2) h
  rw [Bool.and_eq_true, decide_eq_true_eq] at h5
  unfold marksOf
  rw [scan_append s _ h5.2, scan_one (put_good h2).1]
  dsimp only
  rw [marksF_append _ _ _ h5.1, h3, h4, marksF, epoch_put h1 h2]
  dsimp only
  rw [if_pos ha, marksF, h5.2, List.length_append, F.frame_len]
  simp
theorem marks_nil : marksOf [] = (0, 0, true) := by
  unfold marksOf
  rw [scan_nil]
  rfl

/-- The document's calls, over a disk's files: the error, the files behind. -/
def replaceD (room : Nat) (nm p : Tx) (l : List D.F) : Nat × List D.F :=
  if (D.append room temp (F.frame p) (D.del temp l)).1 = 0 then D.rename temp nm (D.sync temp (D.append room temp (F.frame p) (D.del temp l)).2).2
  else ((D.append room temp (F.frame p) (D.del temp l)).1, D.del temp l)
def saveD (room : Nat) (next : Int) (segs : List Int) (l : List D.F) : Nat × List D.F := if right next segs = true then replaceD room fileN (payload next segs) l else (1, l)
def loadD (l : List D.F) : Nat × Nat × List Nat := match D.find fileN l with | none => (0, 1, []) | some f => match loadL f.data with | none => (2, 0, []) | some x => (0, x)
def epochD (l : List D.F) : Nat × Nat × Bool := marksOf (D.read markN l).1
def keepD (room e : Nat) (l : List D.F) : Nat × List D.F :=
  if (epochD l).2.2 = true ∧ (epochD l).2.1 ≤ 20 then D.append room markN (F.frame (N.putL e)) l else replaceD room markN (N.putL e) l
def raiseD (room : Nat) (z : Int) (l : List D.F) : Nat × List D.F :=
  if z < 1 ∨ (far : Int) < z then (1, l)
  else if z.toNat < (epochD l).1 then (10, l)
  else if (epochD l).1 < z.toNat then (if (keepD room z.toNat l).1 = 0 then D.sync markN (keepD room z.toNat l).2 else keepD room z.toNat l)
  else D.sync markN l
theorem append_err {room : Nat} {nm s : Tx} {l : List D.F} (h : (D.append room nm s l).1 ≠ 0) : (D.append room nm s l).2 = l := by
  unfold D.append at h ⊢
  split
  · rfl
  split
  · rfl
  split
  · rfl
  · rename_i h1 h2 h3
    rw [if_neg h1, if_neg h2, if_neg h3] at h
    exact absurd rfl h
theorem append_code (room : Nat) (nm s : Tx) (l : List D.F) : (D.append room nm s l).1 = 0 ∨ (D.append room nm s l).1 = 1 ∨ (D.append room nm s l).1 = 4 ∨ (D.append room nm s l).1 = 8 := by
  unfold D.append
  split
  · exact .inr (.inl rfl)
  split
  · exact .inr (.inr (.inl rfl))
  split
  · exact .inr (.inr (.inr rfl))
  · exact .inl rfl
theorem replace_inv {room : Nat} {nm p : Tx} {l : List D.F} (h : D.Inv room l) : D.Inv room (replaceD room nm p l).2 := by
  unfold replaceD
  split
  · exact h.del.append.sync.rename
  · exact h.del
theorem save_inv {room : Nat} {next : Int} {segs : List Int} {l : List D.F} (h : D.Inv room l) : D.Inv room (saveD room next segs l).2 := by
  unfold saveD
  split
  · exact replace_inv h
  · exact h
theorem keep_inv {room e : Nat} {l : List D.F} (h : D.Inv room l) : D.Inv room (keepD room e l).2 := by
  unfold keepD
  split
  · exact h.append
  · exact replace_inv h
theorem raise_inv {room : Nat} {z : Int} {l : List D.F} (h : D.Inv room l) : D.Inv room (raiseD room z l).2 := by
  unfold raiseD
  split
  · exact h
  split
  · exact h
  split
  · split
    · exact (keep_inv h).sync
    · exact keep_inv h
  · exact h.sync
/-- A file whose bytes are all synced. -/
def full (nm s : Tx) : D.F := ⟨nm, s, s.length⟩
theorem append_new {room : Nat} {nm s : Tx} {l : List D.F} (hn : nameL nm = true) (hf : D.find nm l = none) (h40 : l.length < 40) (hr : D.used l + s.length ≤ room) : D.append room nm s l = (0, D.put ⟨nm, s, 0⟩ l) := by
  unfold D.append
  rw [if_neg (by rw [hn]; decide), if_neg (by omega), if_neg (by omega), hf]
theorem append_zero {room : Nat} {nm s : Tx} {l : List D.F} (h : (D.append room nm s l).1 = 0) : (D.append room nm s l).2 = D.put (match D.find nm l with | some f => ⟨nm, f.data ++ s, f.syn⟩ | none => ⟨nm, s, 0⟩) l := by
  unfold D.append at h ⊢
  split
  · rename_i h1; rw [if_pos h1] at h; cases h
  split
  · rename_i h1 h2; rw [if_neg h1, if_pos h2] at h; cases h
  split
  · rename_i h1 h2 h3; rw [if_neg h1, if_neg h2, if_pos h3] at h; cases h
  · rfl
theorem sync_put {nm s : Tx} {y : Nat} {l : List D.F} : D.sync nm (D.put ⟨nm, s, y⟩ l) = (0, D.put (full nm s) l) := by
  have hp := D.find_put (f := ⟨nm, s, y⟩) l
  dsimp only at hp
  unfold D.sync
  rw [hp]
  dsimp only
  rw [D.put_put (f := ⟨nm, s, s.length⟩) (g := ⟨nm, s, y⟩) rfl]
  rfl
/-- What replaces a file: nothing but Temp is gone, or the bytes are there, synced, and Temp is not. -/
theorem replace_is {room : Nat} {nm p : Tx} (l : List D.F) (hn : nameL nm = true) : ((replaceD room nm p l).1 = 0 ∧ (replaceD room nm p l).2 = D.put (full nm (F.frame p)) (D.del temp l)) ∨ ((replaceD room nm p l).1 ≠ 0 ∧ (replaceD room nm p l).2 = D.del temp l) := by
  unfold replaceD
  by_cases h : (D.append room temp (F.frame p) (D.del temp l)).1 = 0
  · rw [if_pos h, append_zero h, D.find_del]
    dsimp only
    rw [sync_put]
    dsimp only
    left
    have hp := D.find_put (f := full temp (F.frame p)) (D.del temp l)
    rw [show (full temp (F.frame p)).name = temp from rfl] at hp
    unfold D.rename
    rw [hp]
    dsimp only
    rw [if_neg (by rw [hn]; decide)]
    have hd := D.del_put (f := full temp (F.frame p)) (l := D.del temp l) (D.find_del temp l)
    rw [show (full temp (F.frame p)).name = temp from rfl] at hd
    rw [hd]
    exact ⟨rfl, rfl⟩
  · rw [if_neg h]
    exact .inr ⟨h, rfl⟩
theorem replace_ok {room : Nat} {nm p : Tx} {l : List D.F} (hn : nameL nm = true) (h40 : (D.del temp l).length < 40) (hr : D.used (D.del temp l) + (p.length + 8) ≤ room) : replaceD room nm p l = (0, D.put (full nm (F.frame p)) (D.del temp l)) := by
  rcases replace_is (room := room) (p := p) l hn with ⟨h1, h2⟩ | ⟨h1, -⟩
  · exact Prod.ext h1 h2
  · have ha : D.append room temp (F.frame p) (D.del temp l) = (0, _) := append_new (by decide +kernel) (D.find_del _ _) h40 (by rw [F.frame_len]; exact hr)
    refine absurd ?_ h1
    have hn2 := hn
    unfold replaceD
    rw [ha, if_pos rfl]
    dsimp only
    rw [sync_put]
    dsimp only
    have hp := D.find_put (f := full temp (F.frame p)) (D.del temp l)
    rw [show (full temp (F.frame p)).name = temp from rfl] at hp
    unfold D.rename
    rw [hp]
    dsimp only
    rw [if_neg (by rw [hn2]; decide)]
end Go.Proofs.Ytmfhipjceeijmaa.A
