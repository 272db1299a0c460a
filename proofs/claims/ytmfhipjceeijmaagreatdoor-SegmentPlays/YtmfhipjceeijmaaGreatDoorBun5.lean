/-
  Own texts, joined: DiskSpec DiskIdx DiskTo
-/
import Derived.Test.YtmfhipjceeijmaaGreatDoorBun3
import Derived.Laws.Strings

/-
  The disk of the document's chapter 8, over lists: files by their names, each with its bytes and how many of them are synced. No program in this text.
-/
namespace Go.Proofs.YtmfhipjceeijmaaGreatDoor.D

abbrev Tx := List UInt8
def lt (a b : Tx) : Bool := Op.bytesLess a b
theorem lt_nil (a : Tx) : lt a [] = false := by cases a <;> rfl
theorem lt_cons (a b : UInt8) (x y : Tx) : lt (a :: x) (b :: y) = (decide (a < b) || (a == b && lt x y)) := rfl
theorem lt_irrefl : ∀ a : Tx, lt a a = false
  | [] => rfl
  | a :: x => by
    rw [lt_cons, lt_irrefl x]
    simp
theorem lt_trans : ∀ {a b c : Tx}, lt a b = true → lt b c = true → lt a c = true
  | [], [], c, h, _ => by cases h
  | [], b :: y, [], _, h2 => by rw [lt_nil] at h2; cases h2
  | [], b :: y, c :: z, _, _ => rfl
  | a :: x, [], c, h, _ => by rw [lt_nil] at h; cases h
  | a :: x, b :: y, [], _, h2 => by rw [lt_nil] at h2; cases h2
  | a :: x, b :: y, c :: z, h, h2 => by
    rw [lt_cons] at h h2 ⊢
    simp only [Bool.or_eq_true, decide_eq_true_eq, Bool.and_eq_true, beq_iff_eq] at h h2 ⊢
    rcases h with h | ⟨rfl, h⟩
    · rcases h2 with h2 | ⟨rfl, h2⟩
      · exact .inl (UInt8.lt_trans h h2)
      · exact .inl h
    · rcases h2 with h2 | ⟨rfl, h2⟩
      · exact .inl h2
      · exact .inr ⟨rfl, lt_trans h h2⟩
theorem lt_tri : ∀ {a b : Tx}, lt a b = false → lt b a = false → a = b
  | [], [], _, _ => rfl
  | [], b :: y, h, _ => by cases h
  | a :: x, [], _, h => by cases h
  | a :: x, b :: y, h, h2 => by
    rw [lt_cons] at h h2
    simp only [Bool.or_eq_false_iff, decide_eq_false_iff_not, Bool.and_eq_false_iff, beq_eq_false_iff_ne] at h h2
    have hab : a = b := by
      have h3 := h.1
      have h4 := h2.1
      rw [UInt8.lt_iff_toNat_lt] at h3 h4
      exact UInt8.toNat_inj.1 (by omega)
    subst hab
    rw [lt_tri (h.2.resolve_left fun h => h rfl) (h2.2.resolve_left fun h => h rfl)]

/-- A file: its name, its bytes, how many are synced. -/
structure F where
  name : Tx
  data : Tx
  syn : Nat
abbrev Sorted (l : List F) : Prop := l.Pairwise fun f g => lt f.name g.name = true
def find (n : Tx) : List F → Option F
  | [] => none
  | f :: l => if f.name = n then some f else find n l
def put (f : F) : List F → List F
  | [] => [f]
  | g :: l => if lt g.name f.name = true then g :: put f l else if g.name = f.name then f :: l else f :: g :: l
def del (n : Tx) : List F → List F
  | [] => []
  | g :: l => if g.name = n then del n l else g :: del n l
def used : List F → Nat
  | [] => 0
  | g :: l => g.data.length + used l
def lenAt (o : Option F) : Nat := match o with | some f => f.data.length | none => 0

theorem mem_put {f g : F} : ∀ {l : List F}, g ∈ put f l → g = f ∨ g ∈ l
  | [], h => by simp [put] at h; exact .inl h
  | x :: l, h => by
    unfold put at h
    split at h
    · rcases List.mem_cons.1 h with rfl | h
      · exact .inr (by simp)
      · rcases mem_put h with h | h
        · exact .inl h
        · exact .inr (by simp [h])
    · split at h
      · rcases List.mem_cons.1 h with rfl | h
        · exact .inl rfl
        · exact .inr (by simp [h])
      · rcases List.mem_cons.1 h with rfl | h
        · exact .inl rfl
        · exact .inr h
theorem mem_del {n : Tx} {g : F} : ∀ {l : List F}, g ∈ del n l → g ∈ l ∧ g.name ≠ n
  | x :: l, h => by
    unfold del at h
    split at h
    · have := mem_del h
      exact ⟨by simp [this.1], this.2⟩
    · rcases List.mem_cons.1 h with rfl | h
      · exact ⟨by simp, by assumption⟩
      · have := mem_del h
        exact ⟨by simp [this.1], this.2⟩
theorem sorted_put {f : F} : ∀ {l : List F}, Sorted l → Sorted (put f l)
  | [], _ => by simp [put]
  | g :: l, h => by
    obtain ⟨h1, h2⟩ := List.pairwise_cons.1 h
    unfold put
    split
    · rename_i hlt
      refine List.pairwise_cons.2 ⟨fun x hx => ?_, sorted_put h2⟩
      rcases mem_put hx with rfl | hx
      · exact hlt
      · exact h1 x hx
    · rename_i hlt
      split
      · rename_i he
        exact List.pairwise_cons.2 ⟨fun x hx => he ▸ h1 x hx, h2⟩
      · rename_i hne
        have hfg : lt f.name g.name = true := by
          cases hq : lt f.name g.name
          · exact absurd (lt_tri (by simpa using hlt) hq) hne
          · rfl
        exact List.pairwise_cons.2 ⟨fun x hx => by
          rcases List.mem_cons.1 hx with rfl | hx
          · exact hfg
          · exact lt_trans hfg (h1 x hx), h⟩
theorem sorted_del {n : Tx} : ∀ {l : List F}, Sorted l → Sorted (del n l)
  | [], _ => by simp [del]
  | g :: l, h => by
    obtain ⟨h1, h2⟩ := List.pairwise_cons.1 h
    unfold del
    split
    · exact sorted_del h2
    · exact List.pairwise_cons.2 ⟨fun x hx => h1 x (mem_del hx).1, sorted_del h2⟩
theorem find_put {f : F} : ∀ l : List F, find f.name (put f l) = some f
  | [] => by simp [put, find]
  | g :: l => by
    unfold put
    split
    · rename_i hlt
      have hne : ¬ g.name = f.name := fun e => by rw [e, lt_irrefl] at hlt; cases hlt
      rw [find, if_neg hne, find_put l]
    · split
      · rw [find, if_pos rfl]
      · rw [find, if_pos rfl]
theorem find_put_ne {f : F} {n : Tx} (h : f.name ≠ n) : ∀ l : List F, find n (put f l) = find n l
  | [] => by simp [put, find, h]
  | g :: l => by
    unfold put
    split
    · rw [find, find, find_put_ne h l]
    · split
      · rename_i he
        rw [find, if_neg h, find, if_neg (he ▸ h)]
      · rw [find, if_neg h]
theorem find_del (n : Tx) : ∀ l : List F, find n (del n l) = none
  | [] => rfl
  | g :: l => by
    unfold del
    split
    · exact find_del n l
    · rename_i h
      rw [find, if_neg h, find_del n l]
theorem find_del_ne {n m : Tx} (h : n ≠ m) : ∀ l : List F, find m (del n l) = find m l
  | [] => rfl
  | g :: l => by
    unfold del
    split
    · rename_i e
      rw [find_del_ne h l, find, if_neg (e ▸ h)]
    · rw [find, find, find_del_ne h l]
theorem find_some {n : Tx} {f : F} : ∀ {l : List F}, find n l = some f → f ∈ l ∧ f.name = n
  | g :: l, h => by
    rw [find] at h
    split at h
    · rename_i e
      cases h
      exact ⟨by simp, e⟩
    · have := find_some h
      exact ⟨by simp [this.1], this.2⟩
theorem find_none {n : Tx} : ∀ {l : List F}, find n l = none → ∀ f ∈ l, f.name ≠ n
  | g :: l, h, f, hf => by
    rw [find] at h
    split at h
    · cases h
    · rcases List.mem_cons.1 hf with rfl | hf
      · assumption
      · exact find_none h f hf
/-- What stands behind the head of a sorted row is none of its name. -/
theorem find_behind {g : F} : ∀ {l : List F}, (∀ x ∈ l, lt g.name x.name = true) → find g.name l = none
  | [], _ => rfl
  | x :: l, h => by
    have hx := h x (by simp)
    have hne : ¬ x.name = g.name := fun e => by rw [e, lt_irrefl] at hx; cases hx
    rw [find, if_neg hne, find_behind fun y hy => h y (by simp [hy])]
theorem find_ahead {f g : F} {l : List F} (h : lt f.name g.name = true) (hs : ∀ x ∈ l, lt g.name x.name = true) : find f.name (g :: l) = none := by
  have hne : ¬ g.name = f.name := fun e => by rw [e, lt_irrefl] at h; cases h
  rw [find, if_neg hne, find_behind fun x hx => lt_trans h (hs x hx)]
theorem find_mem {f : F} : ∀ {l : List F}, Sorted l → f ∈ l → find f.name l = some f
  | g :: l, h, hf => by
    obtain ⟨h1, h2⟩ := List.pairwise_cons.1 h
    rcases List.mem_cons.1 hf with rfl | hf
    · rw [find, if_pos rfl]
    · have hl := h1 f hf
      have hne : ¬ g.name = f.name := fun e => by rw [e, lt_irrefl] at hl; cases hl
      rw [find, if_neg hne, find_mem h2 hf]
theorem not_lt_cases {f g : F} (h : ¬ lt g.name f.name = true) (hne : ¬ g.name = f.name) : lt f.name g.name = true := by
  cases hq : lt f.name g.name
  · exact absurd (lt_tri (by simpa using h) hq) hne
  · rfl
theorem used_put {f : F} : ∀ {l : List F}, Sorted l → used (put f l) + lenAt (find f.name l) = used l + f.data.length
  | [], _ => by simp [put, used, find, lenAt]
  | g :: l, h => by
    obtain ⟨h1, h2⟩ := List.pairwise_cons.1 h
    unfold put
    split
    · rename_i hlt
      have hne : ¬ g.name = f.name := fun e => by rw [e, lt_irrefl] at hlt; cases hlt
      have := used_put (f := f) h2
      rw [find, if_neg hne]
      simp only [used]
      omega
    · rename_i hlt
      split
      · rename_i he
        rw [find, if_pos he]
        simp only [used, lenAt]
        omega
      · rename_i hne
        rw [find_ahead (not_lt_cases hlt hne) h1]
        simp only [used, lenAt]
        omega
theorem length_put {f : F} : ∀ {l : List F}, Sorted l → (put f l).length = l.length + (if find f.name l = none then 1 else 0)
  | [], _ => by simp [put, find]
  | g :: l, h => by
    obtain ⟨h1, h2⟩ := List.pairwise_cons.1 h
    unfold put
    split
    · rename_i hlt
      have hne : ¬ g.name = f.name := fun e => by rw [e, lt_irrefl] at hlt; cases hlt
      have := length_put (f := f) h2
      rw [find, if_neg hne]
      simp only [List.length_cons]
      omega
    · rename_i hlt
      split
      · rename_i he
        rw [find, if_pos he]
        simp
      · rename_i hne
        rw [find_ahead (not_lt_cases hlt hne) h1]
        simp
theorem used_del {n : Tx} : ∀ {l : List F}, Sorted l → used (del n l) + lenAt (find n l) = used l
  | [], _ => rfl
  | g :: l, h => by
    obtain ⟨h1, h2⟩ := List.pairwise_cons.1 h
    unfold del
    split
    · rename_i he
      have hf : find n l = none := he ▸ find_behind h1
      have := used_del (n := n) h2
      rw [hf] at this
      rw [find, if_pos he]
      simp only [used, lenAt] at this ⊢
      omega
    · rename_i hne
      have := used_del (n := n) h2
      rw [find, if_neg hne]
      simp only [used]
      omega
theorem length_del {n : Tx} : ∀ {l : List F}, Sorted l → (del n l).length + (if find n l = none then 0 else 1) = l.length
  | [], _ => rfl
  | g :: l, h => by
    obtain ⟨h1, h2⟩ := List.pairwise_cons.1 h
    unfold del
    split
    · rename_i he
      have hf : find n l = none := he ▸ find_behind h1
      have := length_del (n := n) h2
      rw [hf, if_pos rfl] at this
      rw [find, if_pos he]
      simp
      omega
    · rename_i hne
      have := length_del (n := n) h2
      rw [find, if_neg hne]
      simp only [List.length_cons]
      omega
theorem del_none {n : Tx} : ∀ {l : List F}, find n l = none → del n l = l
  | [], _ => rfl
  | g :: l, h => by
    rw [find] at h
    split at h
    · cases h
    · rename_i hne
      rw [del, if_neg hne, del_none h]
theorem put_put {f g : F} (h : f.name = g.name) : ∀ l : List F, put f (put g l) = put f l
  | [] => by simp [put, h, lt_irrefl]
  | x :: l => by
    by_cases h1 : lt x.name g.name = true
    · rw [put, if_pos h1, put, if_pos (h ▸ h1), put_put h l, put, if_pos (h ▸ h1)]
    · by_cases h2 : x.name = g.name
      · rw [put, if_neg h1, if_pos h2, put, if_neg (by rw [h, lt_irrefl]; decide), if_pos h.symm, put, if_neg (h ▸ h1), if_pos (h ▸ h2)]
      · rw [put, if_neg h1, if_neg h2, put, if_neg (by rw [h, lt_irrefl]; decide), if_pos h.symm, put, if_neg (h ▸ h1), if_neg (h ▸ h2)]
theorem del_put {f : F} : ∀ {l : List F}, find f.name l = none → del f.name (put f l) = l
  | [], _ => by simp [put, del]
  | g :: l, h => by
    rw [find] at h
    split at h
    · cases h
    · rename_i hne
      unfold put
      split
      · rw [del, if_neg hne, del_put h]
      · rw [del, if_pos rfl, del, if_neg hne, del_none h]
/-- Two sorted rows in which the same is found are one. -/
theorem ext : ∀ {l k : List F}, Sorted l → Sorted k → (∀ n, find n l = find n k) → l = k
  | [], [], _, _, _ => rfl
  | [], g :: k, _, _, h => by have := h g.name; rw [find, find, if_pos rfl] at this; cases this
  | f :: l, [], _, _, h => by have := h f.name; rw [show find f.name (f :: l) = some f by rw [find, if_pos rfl]] at this; cases this
  | f :: l, g :: k, hl, hk, h => by
    obtain ⟨l1, l2⟩ := List.pairwise_cons.1 hl
    obtain ⟨k1, k2⟩ := List.pairwise_cons.1 hk
    have hfg : f = g := by
      have hf := h f.name
      rw [find, if_pos rfl] at hf
      have hg := h g.name
      rw [find, find, if_pos rfl] at hg
      have mf := (find_some hf.symm).1
      rcases List.mem_cons.1 mf with e | mf
      · exact e
      · have hgf := k1 f mf
        have hne : ¬ f.name = g.name := fun e => by rw [e, lt_irrefl] at hgf; cases hgf
        rw [if_neg hne] at hg
        have hfg := l1 g (find_some hg).1
        have := lt_trans hgf hfg
        rw [lt_irrefl] at this
        cases this
    subst hfg
    rw [ext l2 k2 fun n => by
      by_cases e : f.name = n
      · subst e
        rw [find_behind l1, find_behind k1]
      · have := h n
        rw [find, if_neg e, find, if_neg e] at this
        exact this]

/-- The document's calls: the error, and the files behind the call. -/
def append (room : Nat) (n s : Tx) (l : List F) : Nat × List F :=
  if nameL n = false then (1, l)
  else if find n l = none ∧ 40 ≤ l.length then (4, l)
  else if room < used l + s.length then (8, l)
  else (0, put (match find n l with | some f => ⟨n, f.data ++ s, f.syn⟩ | none => ⟨n, s, 0⟩) l)
def sync (n : Tx) (l : List F) : Nat × List F := match find n l with | none => (6, l) | some f => (0, put ⟨n, f.data, f.data.length⟩ l)
def read (n : Tx) (l : List F) : Tx × Nat := match find n l with | none => ([], 6) | some f => (f.data, 0)
def synced (n : Tx) (l : List F) : Nat := match find n l with | none => 0 | some f => f.syn
def delete (n : Tx) (l : List F) : Nat × List F := match find n l with | none => (6, l) | some _ => (0, del n l)
def rename (a b : Tx) (l : List F) : Nat × List F := match find a l with | none => (6, l) | some f => if nameL b = false then (1, l) else (0, put ⟨b, f.data, f.syn⟩ (del a l))
def keepN (k : Int) (f : F) : Nat := min k.toNat (f.data.length - f.syn)
def crashF (k : Int) (f : F) : F := ⟨f.name, f.data.take (f.syn + keepN k f), f.syn + keepN k f⟩
def crash : List Int → List F → List F
  | _, [] => []
  | ks, f :: l => crashF (ks.headD 0) f :: crash ks.tail l
def act (room : Nat) (op : Nat) (n m : Tx) (ks : List Int) (l : List F) : Nat × List F :=
  if op ≤ 2 then append room n m l else if op ≤ 4 then sync n l else if op = 5 then rename n m l else if op = 6 then delete n l else (0, crash ks l)

structure Inv (room : Nat) (l : List F) : Prop where
  sorted : Sorted l
  syn : ∀ f ∈ l, f.syn ≤ f.data.length
  many : l.length ≤ 40
  room : used l ≤ room
theorem inv_nil (room : Nat) : Inv room [] := ⟨List.Pairwise.nil, (fun _ h => by cases h), by simp, Nat.zero_le _⟩
theorem find_len {n : Tx} {f : F} {l : List F} (h : find n l = some f) : 0 < l.length := by
  cases l with
  | nil => cases h
  | cons g l => simp
theorem Inv.append {room : Nat} {n s : Tx} {l : List F} (h : Inv room l) : Inv room (append room n s l).2 := by
  unfold D.append
  split
  · exact h
  split
  · exact h
  rename_i h4
  split
  · exact h
  rename_i h8
  cases hf : find n l with
  | none =>
    dsimp only
    refine ⟨sorted_put h.sorted, fun f hm => ?_, ?_, ?_⟩
    · rcases mem_put hm with rfl | hm
      · exact Nat.zero_le _
      · exact h.syn f hm
    · rw [length_put h.sorted]
      have : ¬ 40 ≤ l.length := fun e => h4 ⟨hf, e⟩
      split <;> omega
    · have := used_put (f := ⟨n, s, 0⟩) h.sorted
      rw [hf] at this
      simp only [lenAt] at this
      omega
  | some g =>
    dsimp only
    refine ⟨sorted_put h.sorted, fun f hm => ?_, ?_, ?_⟩
    · rcases mem_put hm with rfl | hm
      · have := h.syn g (find_some hf).1
        simp
        omega
      · exact h.syn f hm
    · rw [length_put h.sorted]
      rw [if_neg (by rw [hf]; intro e; cases e)]
      have := h.many
      omega
    · have := used_put (f := ⟨n, g.data ++ s, g.syn⟩) h.sorted
      rw [hf] at this
      simp only [lenAt, List.length_append] at this
      omega
theorem Inv.sync {room : Nat} {n : Tx} {l : List F} (h : Inv room l) : Inv room (sync n l).2 := by
  unfold D.sync
  cases hf : find n l with
  | none => exact h
  | some g =>
    dsimp only
    refine ⟨sorted_put h.sorted, fun f hm => ?_, ?_, ?_⟩
    · rcases mem_put hm with rfl | hm
      · exact Nat.le_refl _
      · exact h.syn f hm
    · rw [length_put h.sorted, if_neg (by rw [hf]; intro e; cases e)]
      have := h.many
      omega
    · have := used_put (f := ⟨n, g.data, g.data.length⟩) h.sorted
      rw [hf] at this
      simp only [lenAt] at this
      have := h.room
      omega
theorem Inv.del {room : Nat} {n : Tx} {l : List F} (h : Inv room l) : Inv room (del n l) :=
  ⟨sorted_del h.sorted, fun f hm => h.syn f (mem_del hm).1, by have := length_del (n := n) h.sorted; have := h.many; omega, by have := used_del (n := n) h.sorted; have := h.room; omega⟩
theorem Inv.delete {room : Nat} {n : Tx} {l : List F} (h : Inv room l) : Inv room (delete n l).2 := by
  unfold D.delete
  cases find n l with
  | none => exact h
  | some g => exact h.del
theorem Inv.rename {room : Nat} {a b : Tx} {l : List F} (h : Inv room l) : Inv room (rename a b l).2 := by
  unfold D.rename
  cases hf : find a l with
  | none => exact h
  | some g =>
    dsimp only
    split
    · exact h
    have hd := h.del (n := a)
    have u1 := used_del (n := a) h.sorted
    have l1 := length_del (n := a) h.sorted
    rw [hf] at u1 l1
    rw [if_neg (by intro e; cases e)] at l1
    refine ⟨sorted_put hd.sorted, fun f hm => ?_, ?_, ?_⟩
    · rcases mem_put hm with rfl | hm
      · exact h.syn g (find_some hf).1
      · exact hd.syn f hm
    · rw [length_put hd.sorted]
      have := h.many
      split <;> omega
    · have := used_put (f := ⟨b, g.data, g.syn⟩) hd.sorted
      have := h.room
      simp only [lenAt] at *
      omega
theorem keepN_le (k : Int) (f : F) : keepN k f ≤ f.data.length - f.syn := Nat.min_le_right _ _
theorem crashF_syn {k : Int} {f : F} (h : f.syn ≤ f.data.length) : (crashF k f).syn = (crashF k f).data.length := by
  have := keepN_le k f
  simp [crashF]
  omega
theorem crashF_len (k : Int) (f : F) : (crashF k f).data.length ≤ f.data.length := by
  simp [crashF]
  omega
theorem mem_crash {g : F} : ∀ {ks : List Int} {l : List F}, g ∈ crash ks l → ∃ k f, f ∈ l ∧ g = crashF k f
  | ks, f :: l, h => by
    rcases List.mem_cons.1 h with rfl | h
    · exact ⟨_, f, by simp, rfl⟩
    · obtain ⟨k, x, hx, e⟩ := mem_crash h
      exact ⟨k, x, by simp [hx], e⟩
theorem length_crash : ∀ (ks : List Int) (l : List F), (crash ks l).length = l.length
  | _, [] => rfl
  | ks, f :: l => by simp [crash, length_crash]
theorem names_crash : ∀ (ks : List Int) (l : List F), (crash ks l).map F.name = l.map F.name
  | _, [] => rfl
  | ks, f :: l => by simp [crash, names_crash, crashF]
theorem sorted_crash : ∀ {ks : List Int} {l : List F}, Sorted l → Sorted (crash ks l)
  | _, [], _ => List.Pairwise.nil
  | ks, f :: l, h => by
    obtain ⟨h1, h2⟩ := List.pairwise_cons.1 h
    refine List.pairwise_cons.2 ⟨fun x hx => ?_, sorted_crash h2⟩
    obtain ⟨k, g, hg, rfl⟩ := mem_crash hx
    exact h1 g hg
theorem used_crash : ∀ (ks : List Int) (l : List F), used (crash ks l) ≤ used l
  | _, [] => Nat.le_refl _
  | ks, f :: l => by
    have h1 := used_crash ks.tail l
    have h2 := crashF_len (ks.headD 0) f
    simp only [crash, used]
    omega
theorem Inv.crash {room : Nat} {ks : List Int} {l : List F} (h : Inv room l) : Inv room (crash ks l) :=
  ⟨sorted_crash h.sorted, fun f hm => by
    obtain ⟨k, g, hg, rfl⟩ := mem_crash hm
    exact Nat.le_of_eq (crashF_syn (h.syn g hg)), by rw [length_crash]; exact h.many, Nat.le_trans (used_crash ks l) h.room⟩
theorem Inv.act {room op : Nat} {n m : Tx} {ks : List Int} {l : List F} (h : Inv room l) : Inv room (act room op n m ks l).2 := by
  unfold D.act
  split
  · exact h.append
  split
  · exact h.sync
  split
  · exact h.rename
  split
  · exact h.delete
  · exact h.crash
/-- All bytes of all files are synced. -/
def Full (l : List F) : Prop := ∀ f ∈ l, f.syn = f.data.length
theorem full_crash {ks : List Int} {l : List F} (h : ∀ f ∈ l, f.syn ≤ f.data.length) : Full (crash ks l) := fun f hm => by
  obtain ⟨k, g, hg, rfl⟩ := mem_crash hm
  exact crashF_syn (h g hg)
theorem crashF_full {k : Int} {f : F} (h : f.syn = f.data.length) : crashF k f = f := by
  have hk : keepN k f = 0 := by have := keepN_le k f; omega
  obtain ⟨a, b, c⟩ := f
  dsimp only at h
  subst h
  simp [crashF, hk]
theorem crash_full : ∀ {ks : List Int} {l : List F}, Full l → crash ks l = l
  | _, [], _ => rfl
  | ks, f :: l, h => by
    rw [crash, crashF_full (h f (by simp)), crash_full fun g hg => h g (by simp [hg])]
theorem full_del {n : Tx} {l : List F} (h : Full l) : Full (del n l) := fun f hm => h f (mem_del hm).1
/-- One number for each file: the one file that is not all synced keeps by it. -/
theorem crash_put {k : Int} {f : F} : ∀ {ks : List Int} {l : List F}, (∀ x ∈ ks, x = k) → l.length < ks.length → Full l → crash ks (put f l) = put (crashF k f) l
  | x :: ks, [], hk, _, _ => by
    have := hk x (by simp)
    subst this
    rfl
  | x :: ks, g :: l, hk, hl, hF => by
    have hx := hk x (by simp)
    subst hx
    have hg := hF g (by simp)
    have hF2 : Full l := fun y hy => hF y (by simp [hy])
    have hn : (crashF x f).name = f.name := rfl
    unfold put
    rw [hn]
    split
    · rw [crash, crashF_full hg]
      simp only [List.tail_cons]
      rw [crash_put (fun y hy => hk y (by simp [hy])) (by simp only [List.length_cons] at hl; omega) hF2]
    · split
      · rw [crash, crash_full hF2]
        rfl
      · rw [crash, crash_full hF]
        rfl
theorem used_act {room op : Nat} {n m : Tx} {ks : List Int} {l : List F} (h : Inv room l) : used (act room op n m ks l).2 ≤ used l + m.length := by
  unfold D.act
  split
  · unfold D.append
    split
    · dsimp only; omega
    split
    · dsimp only; omega
    split
    · dsimp only; omega
    cases hf : find n l with
    | none =>
      have := used_put (f := ⟨n, m, 0⟩) h.sorted
      dsimp only at this ⊢
      omega
    | some g =>
      have := used_put (f := ⟨n, g.data ++ m, g.syn⟩) h.sorted
      rw [hf] at this
      simp only [lenAt, List.length_append] at this ⊢
      omega
  split
  · unfold D.sync
    cases hf : find n l with
    | none => dsimp only; omega
    | some g =>
      have := used_put (f := ⟨n, g.data, g.data.length⟩) h.sorted
      rw [hf] at this
      simp only [lenAt] at this ⊢
      omega
  split
  · unfold D.rename
    cases hf : find n l with
    | none => dsimp only; omega
    | some g =>
      dsimp only
      split
      · dsimp only; omega
      · have u1 := used_del (n := n) h.sorted
        have u2 := used_put (f := ⟨m, g.data, g.syn⟩) (sorted_del (n := n) h.sorted)
        rw [hf] at u1
        simp only [lenAt] at u1 u2 ⊢
        omega
  split
  · unfold D.delete
    cases hf : find n l with
    | none => dsimp only; omega
    | some g => have := used_del (n := n) h.sorted; dsimp only; omega
  · have := used_crash ks l
    dsimp only
    omega
end Go.Proofs.YtmfhipjceeijmaaGreatDoor.D

/-
  The place of a name in a sorted row of files: what is found, put, deleted there. No program in this text.
-/
namespace Go.Proofs.YtmfhipjceeijmaaGreatDoor.D

def idx (n : Tx) : List F → Nat
  | [] => 0
  | f :: l => if lt f.name n = true then idx n l + 1 else 0
theorem idx_le (n : Tx) : ∀ l : List F, idx n l ≤ l.length
  | [] => Nat.le_refl _
  | f :: l => by
    have := idx_le n l
    unfold idx
    split <;> simp <;> omega
theorem idx_next {n : Tx} : ∀ {l : List F} {k : Nat} (h : k < l.length), k ≤ idx n l → lt l[k].name n = true → k + 1 ≤ idx n l
  | f :: l, 0, _, _, hl => by
    have hl2 : lt f.name n = true := hl
    unfold idx
    rw [if_pos hl2]
    omega
  | f :: l, k + 1, h, hk, hl => by
    unfold idx at hk ⊢
    split at hk
    · rename_i h2
      rw [if_pos h2]
      have := idx_next (n := n) (l := l) (k := k) (by simpa using h) (by omega) (by simpa using hl)
      omega
    · omega
theorem idx_stop {n : Tx} : ∀ {l : List F} {k : Nat} (h : k < l.length), k ≤ idx n l → lt l[k].name n = false → k = idx n l
  | f :: l, 0, _, _, hl => by
    have hl2 : lt f.name n = false := hl
    unfold idx
    rw [if_neg (by rw [hl2]; decide)]
  | f :: l, k + 1, h, hk, hl => by
    unfold idx at hk ⊢
    split at hk
    · rename_i h2
      rw [if_pos h2]
      have := idx_stop (n := n) (l := l) (k := k) (by simpa using h) (by omega) (by simpa using hl)
      omega
    · omega
theorem idx_end {n : Tx} {l : List F} {k : Nat} (h : ¬ k < l.length) (hk : k ≤ idx n l) : k = idx n l := by
  have := idx_le n l
  omega
/-- At the place of a name: it, or what is behind it. -/
theorem find_at {n : Tx} : ∀ {l : List F}, Sorted l → (h : idx n l < l.length) → l[idx n l].name = n → find n l = some l[idx n l]
  | f :: l, hs, h, he => by
    obtain ⟨h1, h2⟩ := List.pairwise_cons.1 hs
    by_cases hl : lt f.name n = true
    · have hne : ¬ f.name = n := fun e => by rw [e, lt_irrefl] at hl; cases hl
      have e1 : idx n (f :: l) = idx n l + 1 := by rw [idx, if_pos hl]
      have hl3 : idx n l < l.length := by rw [e1] at h; simpa using h
      have e2 : (f :: l)[idx n (f :: l)] = l[idx n l] := by simp only [e1, List.getElem_cons_succ]
      rw [e2] at he ⊢
      rw [find, if_neg hne]
      exact find_at h2 hl3 he
    · have e1 : idx n (f :: l) = 0 := by rw [idx, if_neg hl]
      have e2 : (f :: l)[idx n (f :: l)] = f := by simp only [e1, List.getElem_cons_zero]
      rw [e2] at he ⊢
      rw [find, if_pos he]
theorem find_off {n : Tx} : ∀ {l : List F}, Sorted l → (∀ h : idx n l < l.length, l[idx n l].name ≠ n) → find n l = none
  | [], _, _ => rfl
  | f :: l, hs, he => by
    obtain ⟨h1, h2⟩ := List.pairwise_cons.1 hs
    by_cases hl : lt f.name n = true
    · have hne : ¬ f.name = n := fun e => by rw [e, lt_irrefl] at hl; cases hl
      have e1 : idx n (f :: l) = idx n l + 1 := by rw [idx, if_pos hl]
      rw [find, if_neg hne]
      refine find_off h2 fun h => ?_
      have := he (by rw [e1]; simpa using h)
      have e2 : (f :: l)[idx n (f :: l)]'(by rw [e1]; simpa using h) = l[idx n l] := by simp only [e1, List.getElem_cons_succ]
      rw [e2] at this
      exact this
    · have e1 : idx n (f :: l) = 0 := by rw [idx, if_neg hl]
      have hne : f.name ≠ n := by
        have := he (by rw [e1]; simp)
        have e2 : (f :: l)[idx n (f :: l)]'(by rw [e1]; simp) = f := by simp only [e1, List.getElem_cons_zero]
        rw [e2] at this
        exact this
      have hnf : lt n f.name = true := by
        cases hq : lt n f.name
        · exact absurd (lt_tri (by simpa using hl) hq) hne
        · rfl
      rw [find, if_neg hne]
      cases hf : find n l with
      | none => rfl
      | some g =>
        obtain ⟨hm, rfl⟩ := find_some hf
        have := lt_trans hnf (h1 g hm)
        rw [lt_irrefl] at this
        cases this
theorem idx_of {n : Tx} {f : F} : ∀ {l : List F}, Sorted l → find n l = some f → ∃ h : idx n l < l.length, l[idx n l] = f := by
  intro l hs hf
  by_cases h : idx n l < l.length
  · by_cases he : l[idx n l].name = n
    · have := find_at hs h he
      rw [hf] at this
      exact ⟨h, (Option.some.inj this).symm⟩
    · have := find_off hs fun _ => he
      rw [hf] at this
      cases this
  · have := find_off hs fun h2 => absurd h2 h
    rw [hf] at this
    cases this
theorem put_new {f : F} : ∀ {l : List F}, Sorted l → find f.name l = none → put f l = l.take (idx f.name l) ++ f :: l.drop (idx f.name l)
  | [], _, _ => rfl
  | g :: l, hs, hf => by
    obtain ⟨h1, h2⟩ := List.pairwise_cons.1 hs
    rw [find] at hf
    split at hf
    · cases hf
    · rename_i hne
      by_cases hl : lt g.name f.name = true
      · rw [put, if_pos hl, put_new h2 hf, idx, if_pos hl]
        simp
      · rw [put, if_neg hl, if_neg hne, idx, if_neg hl]
        simp
theorem put_old {f : F} : ∀ {l : List F}, Sorted l → find f.name l ≠ none → put f l = l.set (idx f.name l) f
  | [], _, h => absurd rfl h
  | g :: l, hs, h => by
    obtain ⟨h1, h2⟩ := List.pairwise_cons.1 hs
    by_cases hl : lt g.name f.name = true
    · have hne : ¬ g.name = f.name := fun e => by rw [e, lt_irrefl] at hl; cases hl
      rw [find, if_neg hne] at h
      rw [put, if_pos hl, put_old h2 h, idx, if_pos hl, List.set_cons_succ]
    · by_cases he : g.name = f.name
      · rw [put, if_neg hl, if_pos he, idx, if_neg hl, List.set_cons_zero]
      · exact absurd (find_ahead (not_lt_cases hl he) h1) h
theorem del_old {n : Tx} : ∀ {l : List F}, Sorted l → find n l ≠ none → del n l = l.take (idx n l) ++ l.drop (idx n l + 1)
  | [], _, h => absurd rfl h
  | g :: l, hs, h => by
    obtain ⟨h1, h2⟩ := List.pairwise_cons.1 hs
    by_cases hl : lt g.name n = true
    · have hne : ¬ g.name = n := fun e => by rw [e, lt_irrefl] at hl; cases hl
      rw [find, if_neg hne] at h
      rw [del, if_neg hne, del_old h2 h, idx, if_pos hl]
      simp
    · by_cases he : g.name = n
      · have hn : find n l = none := he ▸ find_behind h1
        rw [del, if_pos he, del_none hn, idx, if_neg hl]
        simp
      · have := find_ahead (f := ⟨n, [], 0⟩) (not_lt_cases hl he) h1
        exact absurd this h
end Go.Proofs.YtmfhipjceeijmaaGreatDoor.D

/-
  A crash, file by file. No program in this text.
-/
namespace Go.Proofs.YtmfhipjceeijmaaGreatDoor.D

theorem crash_get : ∀ {ks : List Int} {l : List F} {j : Nat} (h : j < l.length) (h2 : j < (crash ks l).length), (crash ks l)[j] = crashF (ks.getD j 0) l[j]
  | ks, f :: l, 0, _, _ => by cases ks <;> rfl
  | ks, f :: l, j + 1, h, h2 => by
    have := crash_get (ks := ks.tail) (l := l) (j := j) (by simpa using h) (by simpa [crash] using h2)
    simp only [crash, List.getElem_cons_succ]
    rw [this]
    cases ks <;> simp
/-- The files behind j rounds. -/
def crashTo (ks : List Int) (l : List F) (j : Nat) : List F := (crash ks l).take j ++ l.drop j
theorem crashTo_len {ks : List Int} {l : List F} {j : Nat} (h : j ≤ l.length) : (crashTo ks l j).length = l.length := by
  unfold crashTo
  rw [List.length_append, List.length_take, List.length_drop, length_crash]
  omega
theorem crashTo_at {ks : List Int} {l : List F} {j : Nat} (h : j < l.length) (h2 : j < (crashTo ks l j).length) : (crashTo ks l j)[j] = l[j] := by
  have e : crashTo ks l j = (crash ks l).take j ++ l.drop j := rfl
  have ht : ((crash ks l).take j).length = j := by rw [List.length_take, length_crash]; omega
  have h3 : j < ((crash ks l).take j ++ l.drop j).length := by rw [← e]; exact h2
  have h4 : (crashTo ks l j)[j] = ((crash ks l).take j ++ l.drop j)[j] := rfl
  refine h4.trans ?_
  rw [List.getElem_append_right (by omega)]
  simp [ht]
theorem crashTo_next {ks : List Int} {l : List F} {j : Nat} (h : j < l.length) : (crashTo ks l j).set j (crashF (ks.getD j 0) l[j]) = crashTo ks l (j + 1) := by
  have hc : j < (crash ks l).length := by rw [length_crash]; exact h
  have ht : ((crash ks l).take j).length = j := by rw [List.length_take]; omega
  unfold crashTo
  rw [List.set_append_right _ _ (by omega), ht, Nat.sub_self, List.drop_eq_getElem_cons h, List.set_cons_zero, List.take_succ_eq_append_getElem hc, crash_get h hc, List.append_assoc]
  rfl
theorem crashTo_end (ks : List Int) (l : List F) : crashTo ks l l.length = crash ks l := by
  unfold crashTo
  rw [List.drop_of_length_le (Nat.le_refl _), List.append_nil, List.take_of_length_le (by rw [length_crash]; omega)]
theorem put_set {f : F} : ∀ {l : List F} {j : Nat} (h : j < l.length), Sorted l → f.name = l[j].name → put f l = l.set j f
  | g :: l, 0, _, _, he => by
    have e : g.name = f.name := he.symm
    rw [put, if_neg (by rw [e, lt_irrefl]; decide), if_pos e]
    rfl
  | g :: l, j + 1, h, hs, he => by
    obtain ⟨h1, h2⟩ := List.pairwise_cons.1 hs
    have hj : j < l.length := by simpa using h
    have he2 : f.name = l[j].name := he
    have hlt : lt g.name f.name = true := by rw [he2]; exact h1 _ (List.getElem_mem hj)
    rw [put, if_pos hlt, put_set hj h2 he2]
    rfl
theorem sorted_names {l k : List F} (h : l.map F.name = k.map F.name) (hs : Sorted l) : Sorted k := by
  have h1 : (l.map F.name).Pairwise fun a b => lt a b = true := List.pairwise_map.2 hs
  rw [h] at h1
  exact List.pairwise_map.1 h1
theorem crashTo_names {ks : List Int} {l : List F} {j : Nat} : (crashTo ks l j).map F.name = l.map F.name := by
  unfold crashTo
  rw [List.map_append, List.map_take, names_crash, ← List.map_take, ← List.map_append, List.take_append_drop]
theorem crashTo_zero {ks : List Int} {l : List F} : crashTo ks l 0 = l := by
  unfold crashTo
  rw [List.take_zero, List.drop_zero, List.nil_append]
theorem crashTo_put {ks : List Int} {l : List F} {j : Nat} (hs : Sorted l) (h : j < l.length) : put (crashF (ks.getD j 0) l[j]) (crashTo ks l j) = crashTo ks l (j + 1) := by
  have hl : j < (crashTo ks l j).length := by rw [crashTo_len (by omega)]; exact h
  rw [put_set hl (sorted_names crashTo_names.symm hs) (by rw [crashTo_at h hl]; rfl), crashTo_next h]
theorem crashTo_find {ks : List Int} {l : List F} {j : Nat} (hs : Sorted l) (h : j < l.length) : find l[j].name (crashTo ks l j) = some l[j] := by
  have hl : j < (crashTo ks l j).length := by rw [crashTo_len (by omega)]; exact h
  have := find_mem (sorted_names (crashTo_names (ks := ks) (j := j)).symm hs) (List.getElem_mem hl)
  rw [crashTo_at h hl] at this
  exact this
end Go.Proofs.YtmfhipjceeijmaaGreatDoor.D
