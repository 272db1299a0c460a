/-
  Own texts, joined: DiskMap
-/
import Derived.Test.YtmfhipjceeijmaaGreatDoorBun5
import Derived.Maps.Views
import Derived.Sort.KeysCollected

/-
  A map with texts as keys, as it reads, against a sorted row of files: look-up, store, delete, how many, the keys in their order. No program in this text.
-/
namespace Go.Proofs.YtmfhipjceeijmaaGreatDoor.D
open Go.Maps

theorem before_is : ∀ a b : Tx, bytesBefore a b = lt a b
  | [], [] => rfl
  | [], _ :: _ => rfl
  | _ :: _, [] => rfl
  | a :: x, b :: y => by rw [lt_cons, ← before_is x y]; rfl
section
variable {H : Type} (e : F → DataW H)
/-- A row of files as a map reads. -/
def entD (l : List F) : List (Lit × DataW H) := l.map fun f => (Lit.string f.name, e f)
def mapD (l : List F) : DataW H := .map (entD e l)
theorem mapD_nil : mapD e [] = .map [] := rfl
theorem size_mapD (l : List F) : size (mapD e l) = l.length := by simp [mapD, entD, size]
theorem same_string (a b : Tx) : (Lit.string a).sameKey (.string b) = decide (a = b) := by
  show (a == b) = _
  by_cases h : a = b
  · simp [h]
  · simp [h]
theorem has_mapD (n : Tx) : ∀ l : List F, has (mapD e l) (.string n) = (find n l).isSome
  | [] => rfl
  | f :: l => by
    have ih := has_mapD n l
    have h1 : has (mapD e (f :: l)) (.string n) = (decide (f.name = n) || has (mapD e l) (.string n)) := by
      rw [← same_string]; rfl
    rw [h1, ih, find]
    by_cases h : f.name = n
    · rw [if_pos h, decide_eq_true h]; rfl
    · rw [if_neg h, decide_eq_false h]; rfl
theorem at_mapD (n : Tx) (z : DataW H) : ∀ l : List F, (mapD e l).atKey (.string n) z = match find n l with | some f => e f | none => z
  | [] => rfl
  | f :: l => by
    have ih := at_mapD n z l
    by_cases h : f.name = n
    · rw [find, if_pos h]
      simp [mapD, entD, DataW.atKey, same_string, h]
    · rw [find, if_neg h, ← ih]
      simp [mapD, entD, DataW.atKey, same_string, h]
theorem del_entD (n : Tx) : ∀ l : List F, (entD e l).filter (fun p => !p.1.sameKey (.string n)) = entD e (del n l)
  | [] => rfl
  | f :: l => by
    have ih := del_entD n l
    by_cases h : f.name = n
    · rw [del, if_pos h, ← ih]
      simp [entD, same_string, h]
    · rw [del, if_neg h]
      show List.filter _ ((Lit.string f.name, e f) :: entD e l) = (Lit.string f.name, e f) :: entD e (del n l)
      rw [List.filter_cons, ← ih]
      simp [same_string, h]
theorem del_mapD (n : Tx) (l : List F) : (mapD e l).del (.string n) = mapD e (del n l) := by
  show DataW.map _ = _
  rw [del_entD]; rfl
theorem lt_asymm {a b : Tx} (h : lt a b = true) : lt b a = false := by
  cases hq : lt b a
  · rfl
  · have := lt_trans h hq
    rw [lt_irrefl] at this
    cases this
theorem insert_entD {f : F} : ∀ {l : List F}, Sorted l → DataW.insert (Lit.string f.name, e f) (entD e (del f.name l)) = entD e (put f l)
  | [], _ => rfl
  | g :: l, h => by
    obtain ⟨h1, h2⟩ := List.pairwise_cons.1 h
    have hb : ∀ (y : F) (r : List F), DataW.insert (Lit.string f.name, e f) (entD e (y :: r)) = if lt f.name y.name = true then (Lit.string f.name, e f) :: entD e (y :: r) else (Lit.string y.name, e y) :: DataW.insert (Lit.string f.name, e f) (entD e r) := fun y r => by
      rw [← before_is]; rfl
    by_cases hlt : lt g.name f.name = true
    · have hne : ¬ g.name = f.name := fun e => by rw [e, lt_irrefl] at hlt; cases hlt
      rw [del, if_neg hne, put, if_pos hlt, hb, if_neg (by rw [lt_asymm hlt]; decide), insert_entD h2]
      rfl
    · by_cases he : g.name = f.name
      · have hn : find f.name l = none := he ▸ find_behind h1
        rw [del, if_pos he, del_none hn, put, if_neg hlt, if_pos he]
        cases l with
        | nil => rfl
        | cons y r =>
          rw [hb, if_pos (he ▸ h1 y (by simp))]
          rfl
      · have hfg := not_lt_cases hlt he
        have hn : find f.name (g :: l) = none := find_ahead hfg h1
        rw [del_none hn, put, if_neg hlt, if_neg he, hb, if_pos hfg]
        rfl
theorem put_mapD {f : F} {l : List F} (h : Sorted l) : (mapD e l).put (.string f.name) (e f) = mapD e (put f l) := by
  show DataW.map _ = _
  rw [del_entD, insert_entD e h]; rfl
theorem keys_mapD (l : List F) : strKeys (mapD e l) = l.map F.name := by
  simp only [mapD, entD, strKeys, List.map_map]
  rfl
end
theorem lt_iff_le {a b : Tx} (h : lt a b = true) : a ≤ b := by
  have h2 : ¬ b < a := fun hb => by
    have : Op.bytesLess b a = true := by
      have e : ∀ x y : Tx, x < y → Op.bytesLess x y = true := fun x y hxy => by
        induction hxy with
        | nil => rfl
        | rel hr => simp [Op.bytesLess, hr]
        | cons _ ih => simp [Op.bytesLess, ih]
      exact e b a hb
    rw [show Op.bytesLess b a = lt b a from rfl, lt_asymm h] at this
    cases this
  exact h2
/-- The names of a sorted row, sorted, are these names. -/
theorem sort_names {l : List F} (h : Sorted l) {ss : List Tx} (hp : ss.Perm (l.map F.name)) : ss.mergeSort leB = l.map F.name := by
  rw [mergeSort_of_perm hp]
  refine List.mergeSort_of_pairwise ?_
  rw [List.pairwise_map]
  exact h.imp fun hlt => by simp only [leB, decide_eq_true_eq]; exact lt_iff_le hlt
end Go.Proofs.YtmfhipjceeijmaaGreatDoor.D
