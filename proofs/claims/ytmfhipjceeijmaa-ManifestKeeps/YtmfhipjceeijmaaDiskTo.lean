/-
  A crash, file by file. No program in this text.
-/
import Derived.Test.YtmfhipjceeijmaaDiskSpec
namespace Go.Proofs.Ytmfhipjceeijmaa.D

theorem crash_get : ∀ {ks : List Int} {l : List F} {j : Nat} (h : j < l.length) (h2 : j < (crash ks l).length), (crash ks l)[j] = crashF (ks.getD j 0) l[j]
  | ks, f :: l, 0, _, _ => by cases ks <;> rfl
  | ks, f :: l, j + 1, h, h2 => by
    have := crash_get (ks := ks.tail) (l := l) (j := j) (by simpa using h) (by simpa [crash] using h2)
    simp only [crash, List.getElem_cons_succ]
    rw [this]
    cases ks <;> simp
/-- The files behind j rounds. -/
def crashTo (ks : List Int) (l : List F) (j : Nat) : List F := (crash ks l).take j ++ l.drop j
theorem crashTo_len {ks : List Int} {l : List F} {j : Nat} (h : j ≤ l.length) : (crashTo ks l j).length = l.length := by
  unfold crashTo
  rw [List.length_append, List.length_take, List.length_drop, length_crash]
  omega
theorem crashTo_at {ks : List Int} {l : List F} {j : Nat} (h : j < l.length) (h2 : j < (crashTo ks l j).length) : (crashTo ks l j)[j] = l[j] := by
  have e : crashTo ks l j = (crash ks l).take j ++ l.drop j := rfl
  have ht : ((crash ks l).take j).length = j := by rw [List.length_take, length_crash]; omega
  have h3 : j < ((crash ks l).take j ++ l.drop j).length := by rw [← e]; exact h2
  have h4 : (crashTo ks l j)[j] = ((crash ks l).take j ++ l.drop j)[j] := rfl
  refine h4.trans ?_
  rw [List.getElem_append_right (by omega)]
  simp [ht]
theorem crashTo_next {ks : List Int} {l : List F} {j : Nat} (h : j < l.length) : (crashTo ks l j).set j (crashF (ks.getD j 0) l[j]) = crashTo ks l (j + 1) := by
  have hc : j < (crash ks l).length := by rw [length_crash]; exact h
  have ht : ((crash ks l).take j).length = j := by rw [List.length_take]; omega
  unfold crashTo
  rw [List.set_append_right _ _ (by omega), ht, Nat.sub_self, List.drop_eq_getElem_cons h, List.set_cons_zero, List.take_succ_eq_append_getElem hc, crash_get h hc, List.append_assoc]
  rfl
theorem crashTo_end (ks : List Int) (l : List F) : crashTo ks l l.length = crash ks l := by
  unfold crashTo
  rw [List.drop_of_length_le (Nat.le_refl _), List.append_nil, List.take_of_length_le (by rw [length_crash]; omega)]
theorem put_set {f : F} : ∀ {l : List F} {j : Nat} (h : j < l.length), Sorted l → f.name = l[j].name → put f l = l.set j f
  | g :: l, 0, _, _, he => by
    have e : g.name = f.name := he.symm
    rw [put, if_neg (by rw [e, lt_irrefl]; decide), if_pos e]
    rfl
  | g :: l, j + 1, h, hs, he => by
    obtain ⟨h1, h2⟩ := List.pairwise_cons.1 hs
    have hj : j < l.length := by simpa using h
    have he2 : f.name = l[j].name := he
    have hlt : lt g.name f.name = true := by rw [he2]; exact h1 _ (List.getElem_mem hj)
    rw [put, if_pos hlt, put_set hj h2 he2]
    rfl
theorem sorted_names {l k : List F} (h : l.map F.name = k.map F.name) (hs : Sorted l) : Sorted k := by
  have h1 : (l.map F.name).Pairwise fun a b => lt a b = true := List.pairwise_map.2 hs
  rw [h] at h1
  exact List.pairwise_map.1 h1
theorem crashTo_names {ks : List Int} {l : List F} {j : Nat} : (crashTo ks l j).map F.name = l.map F.name := by
  unfold crashTo
  rw [List.map_append, List.map_take, names_crash, ← List.map_take, ← List.map_append, List.take_append_drop]
theorem crashTo_zero {ks : List Int} {l : List F} : crashTo ks l 0 = l := by
  unfold crashTo
  rw [List.take_zero, List.drop_zero, List.nil_append]
theorem crashTo_put {ks : List Int} {l : List F} {j : Nat} (hs : Sorted l) (h : j < l.length) : put (crashF (ks.getD j 0) l[j]) (crashTo ks l j) = crashTo ks l (j + 1) := by
  have hl : j < (crashTo ks l j).length := by rw [crashTo_len (by omega)]; exact h
  rw [put_set hl (sorted_names crashTo_names.symm hs) (by rw [crashTo_at h hl]; rfl), crashTo_next h]
theorem crashTo_find {ks : List Int} {l : List F} {j : Nat} (hs : Sorted l) (h : j < l.length) : find l[j].name (crashTo ks l j) = some l[j] := by
  have hl : j < (crashTo ks l j).length := by rw [crashTo_len (by omega)]; exact h
  have := find_mem (sorted_names (crashTo_names (ks := ks) (j := j)).symm hs) (List.getElem_mem hl)
  rw [crashTo_at h hl] at this
  exact this
end Go.Proofs.Ytmfhipjceeijmaa.D
