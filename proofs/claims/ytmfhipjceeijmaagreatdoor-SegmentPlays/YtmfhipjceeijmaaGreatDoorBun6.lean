/-
  Own texts, joined: SegSpec2
-/
import Derived.Test.YtmfhipjceeijmaaGreatDoorBun4
import Derived.Test.YtmfhipjceeijmaaGreatDoorBun5

/-
  Names of segments, and segments on the document's disk. No program in this text.
-/
namespace Go.Proofs.YtmfhipjceeijmaaGreatDoor.G
open R (En)

/-- A number in decimal, the number of digits. -/
def dec (n : Nat) : Tx := if n < 10 then [UInt8.ofNat (48 + n)] else dec (n / 10) ++ [UInt8.ofNat (48 + n % 10)]
termination_by n
decreasing_by omega
def val (l : Tx) : Nat := l.foldl (fun a c => 10 * a + (c.toNat - 48)) 0
theorem dig (d : Nat) (h : d < 10) : (UInt8.ofNat (48 + d)).toNat = 48 + d := by
  rw [UInt8.toNat_ofNat']
  omega
theorem dec_one {n : Nat} (h : n < 10) : dec n = [UInt8.ofNat (48 + n)] := by rw [dec, if_pos h]
theorem dec_step {n : Nat} (h : 10 ≤ n) : dec n = dec (n / 10) ++ [UInt8.ofNat (48 + n % 10)] := by rw [dec, if_neg (by omega)]
theorem val_append (a : Tx) (c : UInt8) : val (a ++ [c]) = 10 * val a + (c.toNat - 48) := by simp [val, List.foldl_append]
theorem val_dec : ∀ n : Nat, val (dec n) = n := fun n => by
  induction n using Nat.strongRecOn with
  | ind n ih =>
    by_cases h : n < 10
    · rw [dec_one h]
      simp only [val, List.foldl_cons, List.foldl_nil]
      rw [dig n h]
      omega
    · rw [dec_step (by omega), val_append, ih (n / 10) (by omega), dig _ (by omega)]
      omega
theorem dec_len : ∀ (k n : Nat), n < 10 ^ (k + 1) → (dec n).length ≤ k + 1
  | 0, n, h => by rw [dec_one (by simpa using h)]; simp
  | k + 1, n, h => by
    by_cases h9 : n < 10
    · rw [dec_one h9]; simp
    · rw [dec_step (by omega), List.length_append]
      have := dec_len k (n / 10) (by rw [Nat.pow_succ] at h; omega)
      simp only [List.length_cons, List.length_nil]
      omega
theorem dec_pos (n : Nat) : 1 ≤ (dec n).length := by
  rw [dec]
  split
  · simp
  · simp
def head4 : Tx := [115, 101, 103, 45]
def nameS (z : Int) : Tx := if 1 ≤ z ∧ z ≤ 1073741824 then head4 ++ dec z.toNat else []
/-- The number whose name it is; 0. -/
def numS (s : Tx) : Nat := if s ≠ [] ∧ nameS (val (s.drop 4) : Int) = s then val (s.drop 4) else 0
theorem name_none {z : Int} (h : ¬ (1 ≤ z ∧ z ≤ 1073741824)) : nameS z = [] := by unfold nameS; rw [if_neg h]
theorem name_some {z : Int} (h : 1 ≤ z ∧ z ≤ 1073741824) : nameS z = head4 ++ dec z.toNat := by unfold nameS; rw [if_pos h]
theorem name_len (z : Int) : (nameS z).length ≤ 14 := by
  unfold nameS
  split
  · rename_i h
    have := dec_len 9 z.toNat (by omega)
    rw [List.length_append]
    simp only [head4, List.length_cons, List.length_nil]
    omega
  · simp
theorem name_ne {z : Int} (h : 1 ≤ z ∧ z ≤ 1073741824) : nameS z ≠ [] := by rw [name_some h]; simp [head4]
theorem num_name {z : Int} (h : 1 ≤ z ∧ z ≤ 1073741824) : numS (nameS z) = z.toNat := by
  have hv : val ((nameS z).drop 4) = z.toNat := by
    rw [name_some h]
    simp [head4, val_dec]
  unfold numS
  rw [hv, if_pos ⟨name_ne h, by rw [Int.toNat_of_nonneg (by omega)]⟩]
theorem num_iff {s : Tx} {k : Nat} (h : 1 ≤ k) : numS s = k ↔ (nameS (k : Int) = s ∧ k ≤ 1073741824) := by
  constructor
  · intro e
    unfold numS at e
    split at e
    · rename_i hc
      rw [e] at hc
      refine ⟨hc.2, ?_⟩
      refine Nat.le_of_not_lt fun hk => ?_
      have := name_none (z := (k : Int)) (by omega)
      rw [hc.2] at this
      exact hc.1 this
    · omega
  · rintro ⟨rfl, hk⟩
    rw [num_name (by omega)]
    rfl
theorem num_zero {s : Tx} (h : ∀ k : Nat, 1 ≤ k → k ≤ 1073741824 → nameS (k : Int) ≠ s) : numS s = 0 := by
  refine Nat.eq_zero_of_not_pos fun hp => ?_
  obtain ⟨h1, h2⟩ := (num_iff (s := s) hp).1 rfl
  exact h _ hp h2 h1
theorem name_small {n : Nat} (h1 : 1 ≤ n) (h9 : n ≤ 9) : nameS (n : Int) = [115, 101, 103, 45, UInt8.ofNat (48 + n)] := by
  rw [name_some (by omega), Int.toNat_natCast, dec_one (by omega)]
  rfl

/-- Segments on a disk: the error, and the files behind the call. -/
def temp : Tx := [116, 101, 109, 112]
def upto (last : Int) (es : List En) : List En := es.takeWhile fun e => decide (e.pos ≤ last)
def createD (room : Nat) (nm : Tx) (first : Int) (l : List D.F) : Nat × List D.F :=
  if nm = [] ∨ first < 1 ∨ (far : Int) < first then (1, l)
  else match D.find nm l with
  | some _ => (7, l)
  | none => if (D.append room nm (segB first.toNat []) l).1 = 0 then D.sync nm (D.append room nm (segB first.toNat []) l).2 else ((D.append room nm (segB first.toNat []) l).1, l)
def loadD (nm : Tx) (l : List D.F) : Nat × Nat × List En × Bool :=
  match D.find nm l with
  | none => (6, 0, [], false)
  | some f => match loadL f.data with
    | none => (2, 0, [], false)
    | some x => (0, x)
def addD (room : Nat) (nm : Tx) (es : List En) (l : List D.F) : Nat × List D.F :=
  match loadD nm l with
  | (0, n, es0, t) =>
    if t = true then (2, l)
    else if R.follows es (R.lastP es0 ((n : Int) - 1)) (R.lastQ es0 0) = false then (11, l)
    else if es = [] then (0, l)
    else if (D.append room nm (F.frames (es.map pay)) l).1 = 0 then D.sync nm (D.append room nm (F.frames (es.map pay)) l).2 else ((D.append room nm (F.frames (es.map pay)) l).1, l)
  | (e + 1, _) => (e + 1, l)
def cutD (room : Nat) (nm : Tx) (last : Int) (l : List D.F) : Nat × List D.F :=
  match loadD nm l with
  | (0, n, es, t) =>
    if t = false ∧ (upto last es).length = es.length then (0, l)
    else if (D.append room temp (segB n (upto last es)) (D.del temp l)).1 = 0 then D.rename temp nm (D.sync temp (D.append room temp (segB n (upto last es)) (D.del temp l)).2).2
    else ((D.append room temp (segB n (upto last es)) (D.del temp l)).1, D.del temp l)
  | (e + 1, _) => (e + 1, l)
theorem createD_inv {room : Nat} {nm : Tx} {first : Int} {l : List D.F} (h : D.Inv room l) : D.Inv room (createD room nm first l).2 := by
  unfold createD
  split
  · exact h
  split
  · exact h
  split
  · exact h.append.sync
  · exact h
theorem addD_inv {room : Nat} {nm : Tx} {es : List En} {l : List D.F} (h : D.Inv room l) : D.Inv room (addD room nm es l).2 := by
  unfold addD
  split
  · split
    · exact h
    split
    · exact h
    split
    · exact h
    split
    · exact h.append.sync
    · exact h
  · exact h
theorem cutD_inv {room : Nat} {nm : Tx} {last : Int} {l : List D.F} (h : D.Inv room l) : D.Inv room (cutD room nm last l).2 := by
  unfold cutD
  split
  · split
    · exact h
    split
    · exact h.del.append.sync.rename
    · exact h.del
  · exact h
theorem append_err {room : Nat} {nm s : Tx} {l : List D.F} (h : (D.append room nm s l).1 ≠ 0) : (D.append room nm s l).2 = l := by
  unfold D.append at h ⊢
  split
  · rfl
  split
  · rfl
  split
  · rfl
  · rename_i h1 h2 h3
    rw [if_neg h1, if_neg h2, if_neg h3] at h
    exact absurd rfl h
theorem put_self {f : D.F} : ∀ {l : List D.F}, D.Sorted l → D.find f.name l = some f → D.put f l = l
  | g :: l, h, hf => by
    obtain ⟨h1, h2⟩ := List.pairwise_cons.1 h
    rw [D.find] at hf
    split at hf
    · rename_i hn
      cases hf
      rw [D.put, if_neg (by rw [D.lt_irrefl]; decide), if_pos rfl]
    · rename_i hn
      have hg := h1 f (D.find_some hf).1
      rw [D.put, if_pos hg, put_self h2 hf]
/-- A file whose bytes are all synced. -/
def full (nm s : Tx) : D.F := ⟨nm, s, s.length⟩
theorem append_new {room : Nat} {nm s : Tx} {l : List D.F} (hn : nameL nm = true) (hf : D.find nm l = none) (h40 : l.length < 40) (hr : D.used l + s.length ≤ room) : D.append room nm s l = (0, D.put ⟨nm, s, 0⟩ l) := by
  unfold D.append
  rw [if_neg (by rw [hn]; decide), if_neg (by omega), if_neg (by omega), hf]
theorem append_old {room : Nat} {nm s d : Tx} {y : Nat} {l : List D.F} (hn : nameL nm = true) (hf : D.find nm l = some ⟨nm, d, y⟩) (hr : D.used l + s.length ≤ room) : D.append room nm s l = (0, D.put ⟨nm, d ++ s, y⟩ l) := by
  unfold D.append
  rw [if_neg (by rw [hn]; decide), if_neg (by rw [hf]; intro h; cases h.1), if_neg (by omega), hf]
theorem sync_put {nm s : Tx} {y : Nat} {l : List D.F} : D.sync nm (D.put ⟨nm, s, y⟩ l) = (0, D.put (full nm s) l) := by
  have hp := D.find_put (f := ⟨nm, s, y⟩) l
  dsimp only at hp
  unfold D.sync
  rw [hp]
  dsimp only
  rw [D.put_put (f := ⟨nm, s, s.length⟩) (g := ⟨nm, s, y⟩) rfl]
  rfl
theorem create_is {room : Nat} {nm : Tx} {n : Nat} {l : List D.F} (hn : nameL nm = true) (h1 : 1 ≤ n) (h2 : n ≤ far) (hf : D.find nm l = none) (h40 : l.length < 40) (hr : D.used l + (segB n []).length ≤ room) : createD room nm n l = (0, D.put (full nm (segB n [])) l) := by
  have hnm : nm ≠ [] := fun e => by
    have := (nameL_len hn).1
    rw [e] at this
    exact absurd this (by decide)
  unfold createD
  rw [if_neg (by rintro (h | h | h) <;> first | exact hnm h | omega), hf]
  dsimp only
  rw [Int.toNat_natCast, append_new hn hf h40 hr, if_pos rfl]
  exact sync_put
theorem create_arg {room : Nat} {nm : Tx} {z : Int} {l : List D.F} (h : z < 1 ∨ (far : Int) < z) : createD room nm z l = (1, l) := by
  unfold createD
  rw [if_pos (.inr h)]
theorem load_find {nm s : Tx} {y : Nat} {l : List D.F} {x : Nat × List En × Bool} (hf : D.find nm l = some ⟨nm, s, y⟩) (h : loadL s = some x) : loadD nm l = (0, x) := by
  unfold loadD
  rw [hf]
  dsimp only
  rw [h]
theorem add_is {room : Nat} {nm : Tx} {n : Nat} {es0 es : List En} {l : List D.F} (hn : nameL nm = true) (h1 : 1 ≤ n) (h2 : n ≤ far) (hs : D.Sorted l) (hf : D.find nm l = some (full nm (segB n es0))) (hw : R.follows (es0 ++ es) ((n : Int) - 1) 0 = true) (hr : D.used l + (F.frames (es.map pay)).length ≤ room) : addD room nm es l = (0, D.put (full nm (segB n (es0 ++ es))) l) := by
  obtain ⟨w1, w2⟩ := (R.follows_append es0 es ((n : Int) - 1) 0).1 hw
  unfold addD
  rw [load_find hf (load_seg h1 h2 w1)]
  dsimp only
  rw [if_neg (by decide), if_neg (by rw [w2]; decide)]
  by_cases he : es = []
  · subst he
    rw [if_pos rfl, List.append_nil, put_self hs (by exact hf)]
  · rw [if_neg he, append_old hn hf hr, if_pos rfl]
    dsimp only
    rw [segB_append]
    exact sync_put
theorem add_gap {room : Nat} {nm : Tx} {n : Nat} {es0 es : List En} {l : List D.F} (h1 : 1 ≤ n) (h2 : n ≤ far) (hf : D.find nm l = some (full nm (segB n es0))) (hw : R.follows es0 ((n : Int) - 1) 0 = true) (hg : R.follows (es0 ++ es) ((n : Int) - 1) 0 = false) : addD room nm es l = (11, l) := by
  have hg2 : R.follows es (R.lastP es0 ((n : Int) - 1)) (R.lastQ es0 0) = false := by
    cases hq : R.follows es (R.lastP es0 ((n : Int) - 1)) (R.lastQ es0 0)
    · rfl
    · rw [(R.follows_append es0 es ((n : Int) - 1) 0).2 ⟨hw, hq⟩] at hg
      cases hg
  unfold addD
  rw [load_find hf (load_seg h1 h2 hw)]
  dsimp only
  rw [if_neg (by decide), if_pos hg2]
theorem cut_is {room : Nat} {nm s : Tx} {n : Nat} {es : List En} {t : Bool} {last : Int} {l : List D.F} (hn : nameL nm = true) (hs : D.Sorted l) (hf : D.find nm l = some (full nm s)) (hl : loadL s = some (n, es, t)) (ht : D.find temp l = none) (h40 : l.length < 40) (hr : D.used l + (segB n (upto last es)).length ≤ room) : cutD room nm last l = (0, D.put (full nm (segB n (upto last es))) l) := by
  have h5 := (load_is hl).2.2.2.2
  unfold cutD
  rw [load_find hf hl]
  dsimp only
  split
  · rename_i hc
    have : segB n es = s := by
      have h6 := hc.1
      rw [h5, decide_eq_false_iff_not, Decidable.not_not] at h6
      exact h6
    have hu : upto last es = es := (List.takeWhile_prefix _).eq_of_length hc.2
    rw [hu, this, put_self hs (by exact hf)]
  · rw [D.del_none ht, append_new (by decide) ht h40 hr, if_pos rfl]
    dsimp only
    rw [sync_put]
    dsimp only
    have hp := D.find_put (f := full temp (segB n (upto last es))) l
    unfold D.rename
    rw [show (full temp (segB n (upto last es))).name = temp from rfl] at hp
    rw [hp]
    dsimp only
    rw [if_neg (by rw [hn]; decide)]
    have hd := D.del_put (f := full temp (segB n (upto last es))) (l := l) ht
    rw [show (full temp (segB n (upto last es))).name = temp from rfl] at hd
    rw [hd]
    rfl
theorem upto_yes {last : Int} {e : En} (es : List En) (h : e.pos ≤ last) : upto last (e :: es) = e :: upto last es := by rw [upto, List.takeWhile_cons, if_pos (by simpa using h)]; rfl
theorem upto_no {last : Int} {e : En} (es : List En) (h : ¬ e.pos ≤ last) : upto last (e :: es) = [] := by rw [upto, List.takeWhile_cons, if_neg (by simpa using h)]
theorem upto_all {last : Int} : ∀ {es : List En}, (∀ e ∈ es, e.pos ≤ last) → upto last es = es
  | [], _ => rfl
  | e :: es, h => by rw [upto_yes es (h e (by simp)), upto_all fun x hx => h x (by simp [hx])]
theorem upto_mem {last : Int} {x : En} : ∀ {es : List En}, x ∈ upto last es → x ∈ es ∧ x.pos ≤ last
  | e :: es, hx => by
    by_cases h : e.pos ≤ last
    · rw [upto_yes es h] at hx
      rcases List.mem_cons.1 hx with rfl | hx
      · exact ⟨by simp, h⟩
      · have := upto_mem hx
        exact ⟨by simp [this.1], this.2⟩
    · rw [upto_no es h] at hx
      cases hx
theorem upto_take (last : Int) : ∀ es : List En, ∃ k, k ≤ es.length ∧ upto last es = es.take k ∧ (∀ i (h : i < es.length), i < k → es[i].pos ≤ last) ∧ (k < es.length → ∀ h : k < es.length, last < es[k].pos)
  | [] => ⟨0, Nat.le_refl _, rfl, fun i h => absurd h (by simp), fun h => absurd h (by simp)⟩
  | e :: es => by
    by_cases h : e.pos ≤ last
    · obtain ⟨k, h1, h2, h3, h4⟩ := upto_take last es
      refine ⟨k + 1, by simpa using h1, ?_, ?_, ?_⟩
      · rw [upto, List.takeWhile_cons, if_pos (by simpa using h), List.take_succ_cons, ← h2]; rfl
      · intro i hi hk
        cases i with
        | zero => simpa using h
        | succ i => simpa using h3 i (by simpa using hi) (by omega)
      · intro hk hk2
        simpa using h4 (by simpa using hk) (by simpa using hk)
    · refine ⟨0, Nat.zero_le _, ?_, fun i _ hi => absurd hi (by omega), fun _ _ => by simp; omega⟩
      rw [upto, List.takeWhile_cons, if_neg (by simpa using h)]; rfl
theorem upto_idem (last : Int) (es : List En) : upto last (upto last es) = upto last es := upto_all fun _ he => (upto_mem he).2
theorem frames_len {k : Nat} : ∀ {l : List Tx}, (∀ p ∈ l, p.length ≤ k) → (F.frames l).length ≤ l.length * (k + 8)
  | [], _ => by simp [F.frames_nil]
  | p :: l, h => by
    have h1 := h p (by simp)
    have h2 := frames_len (l := l) fun q hq => h q (by simp [hq])
    rw [F.frames_cons, List.length_append, F.frame_len, List.length_cons, Nat.add_mul]
    omega
theorem pays_len {es : List En} (h : ∀ e ∈ es, R.right e = true) : (F.frames (es.map pay)).length ≤ es.length * 2921 := by
  have := frames_len (k := 2913) (l := es.map pay) fun p hp => by
    obtain ⟨e, he, rfl⟩ := List.mem_map.1 hp
    have := en_small (h e he)
    unfold pay
    rw [List.length_cons]
    omega
  rwa [List.length_map] at this
theorem segB_len {n : Nat} {es : List En} (hn : n ≤ far) (h : ∀ e ∈ es, R.right e = true) : (segB n es).length ≤ 15 + es.length * 2921 := by
  have h1 := pays_len h
  have h2 := N.putL_len6 (m := n) (by unfold far at hn; omega)
  rw [segB_eq, List.length_append, F.frame_len]
  unfold headP
  rw [List.length_cons]
  omega
end Go.Proofs.YtmfhipjceeijmaaGreatDoor.G
