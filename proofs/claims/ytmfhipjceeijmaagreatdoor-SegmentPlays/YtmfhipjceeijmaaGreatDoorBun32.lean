/-
  Own texts, joined: SegDC SegOne
-/
import Derived.Test.YtmfhipjceeijmaaGreatDoorBun6
import Derived.Test.YtmfhipjceeijmaaGreatDoorBun12
import Derived.Test.YtmfhipjceeijmaaGreatDoorBun27
import Derived.Lib.LaidTab
import Derived.Lib.ItoaMem

/-
  Any segment package that keeps its contracts, over any such disk.
-/
namespace Go.Proofs.YtmfhipjceeijmaaGreatDoor.G
open Go.RowKit
open D (dP)

/-- Each file's name is one. -/
def Named (l : List D.F) : Prop := ∀ f ∈ l, nameL f.name = true
theorem Named.nil : Named [] := fun _ h => by cases h
theorem Named.put {l : List D.F} {f : D.F} (h : Named l) (hf : nameL f.name = true) : Named (D.put f l) := fun g hg => by
  rcases D.mem_put hg with rfl | hg
  · exact hf
  · exact h g hg
theorem Named.del {l : List D.F} {n : Tx} (h : Named l) : Named (D.del n l) := fun g hg => h g (D.mem_del hg).1
theorem Named.crash {l : List D.F} {ks : List Int} (h : Named l) : Named (D.crash ks l) := fun g hg => by
  obtain ⟨k, f, hf, rfl⟩ := D.mem_crash hg
  exact h f hf
/-- The library's table and errors, as start-up code lays them. -/
def Tabs (w : World) : Prop := Lib.TabIs Tryz.prog w "internal/strconv.uint64pow10" .u64 Lib.pow10Tab ∧ (∃ tp p, w.var? Tryz.prog "strconv.ErrSyntax" = some #[.iface tp p]) ∧ ∃ tp p, w.var? Tryz.prog "strconv.ErrRange" = some #[.iface tp p]
theorem var_ext {P : Program} {w w' : World} {n : String} {cs : Array Value} (h : w.var? P n = some cs) (hb : Below w.heap.size w w') : w'.var? P n = some cs := by
  unfold World.var? at h ⊢
  cases hg : P.globalNamed n with
  | none => rw [hg] at h; cases h
  | some g =>
    rw [hg] at h
    simp only [Option.bind_some] at h ⊢
    cases ho : w.heap[g]? with
    | none => rw [ho] at h; cases h
    | some o => rw [hb.block g (Array.getElem?_eq_some_iff.1 ho).1]; exact h
theorem Tabs.below {w w' : World} (h : Tabs w) (hb : Below w.heap.size w w') : Tabs w' := by
  obtain ⟨h1, ⟨t1, p1, h2⟩, t2, p2, h3⟩ := h
  exact ⟨var_ext h1 hb, ⟨t1, p1, var_ext h2 hb⟩, t2, p2, var_ext h3 hb⟩
/-- What the segment package's calls do. -/
structure SC (C : D.DC) where
  name : ∀ {w : World} (z : Int), i64B z → (Tabs w ∨ z < 100) →
    Calls Tryz.prog 16 #[.int .i64 z] w fun x w' => x = .returned (.string (B (nameS z))) ∧ Below w.heap.size w w'
  number : ∀ {w : World} (s : Tx), s.length ≤ 1000 → (Tabs w ∨ ∃ k : Nat, 1 ≤ k ∧ k < 100 ∧ s = nameS (k : Int)) →
    Calls Tryz.prog 17 #[.string (B s)] w fun x w' => x = .returned (.int .i64 (numS s : Int)) ∧ Below w.heap.size w w'
  create : ∀ {bs : Nat} {w : World} {p room : Nat} {l : List D.F} {S : Nat → Prop} (n : Nat) (first : Int) (e : Nat) (l2 : List D.F), C.At bs w p room l S → D.Inv room l → room ≤ 100000000 → Named l → 1 ≤ n → n ≤ 9 → i64B first → createD room (nameS n) first l = (e, l2) →
    Calls Tryz.prog 13 #[dP p, .int .i64 (n : Int), .int .i64 first] w fun x w' => x = .returned (.int .i64 (e : Int)) ∧ (∃ S2, C.At bs w' p room l2 S2 ∧ D.Grow S w S2) ∧ D.But S w w'
  add : ∀ {bs : Nat} {w : World} {p room : Nat} {l : List D.F} {S : Nat → Prop} (n : Nat) (es : List EV) (v : Value) (e : Nat) (l2 : List D.F), C.At bs w p room l S → D.Inv room l → room ≤ 100000000 → Named l → 1 ≤ n → n ≤ 9 → (∀ w', D.But S w w' → ReadsR w' v es) → es.length ≤ 100 → (∀ x ∈ es, E.Small x.1.b) → addD room (nameS n) (ensOf es) l = (e, l2) →
    Calls Tryz.prog 14 #[dP p, .int .i64 (n : Int), v] w fun x w' => x = .returned (.int .i64 (e : Int)) ∧ (∃ S2, C.At bs w' p room l2 S2 ∧ D.Grow S w S2) ∧ D.But S w w'
  load : ∀ {bs : Nat} {w : World} {p room : Nat} {l : List D.F} {S : Nat → Prop} (n : Nat) (e f : Nat) (es : List R.En) (t : Bool), C.At bs w p room l S → D.Inv room l → room ≤ 100000000 → Named l → n ≤ 9 → loadD (nameS n) l = (e, f, es, t) →
    Calls Tryz.prog 10 #[dP p, .int .i64 (n : Int)] w fun x w' => (∃ v xs, x = .returned (.tuple #[.agg #[.int .i64 (f : Int), v, .bool t], .int .i64 (e : Int)]) ∧ ensOf xs = es ∧ ∀ w2, D.But S w' w2 → ReadsR w2 v xs) ∧ Below w.heap.size w w'
  cut : ∀ {bs : Nat} {w : World} {p room : Nat} {l : List D.F} {S : Nat → Prop} (n : Nat) (last : Int) (e : Nat) (l2 : List D.F), C.At bs w p room l S → D.Inv room l → room ≤ 100000000 → Named l → 1 ≤ n → n ≤ 9 → i64B last → cutD room (nameS n) last l = (e, l2) →
    Calls Tryz.prog 23 #[dP p, .int .i64 (n : Int), .int .i64 last] w fun x w' => x = .returned (.int .i64 (e : Int)) ∧ (∃ S2, C.At bs w' p room l2 S2 ∧ D.Grow S w S2) ∧ D.But S w w'
end Go.Proofs.YtmfhipjceeijmaaGreatDoor.G

/-
  A disk with one segment, and the examples of chapter 9 on it. No program in this text but the rows of plain entries.
-/
namespace Go.Proofs.YtmfhipjceeijmaaGreatDoor.G

theorem name_ok {n : Nat} (h1 : 1 ≤ n) (h9 : n ≤ 9) : nameL (nameS (n : Int)) = true := by
  rw [name_small h1 h9]
  have : n = 1 ∨ n = 2 ∨ n = 3 ∨ n = 4 ∨ n = 5 ∨ n = 6 ∨ n = 7 ∨ n = 8 ∨ n = 9 := by omega
  rcases this with rfl | rfl | rfl | rfl | rfl | rfl | rfl | rfl | rfl <;> decide +kernel
theorem name_temp {n : Nat} (h1 : 1 ≤ n) (h9 : n ≤ 9) : temp ≠ nameS (n : Int) := by
  rw [name_small h1 h9]
  intro h
  injection h with h _
  exact absurd h (by decide)
theorem find_one (nm s : Tx) : D.find nm [full nm s] = some (full nm s) := by rw [D.find, if_pos (show (full nm s).name = nm from rfl)]
theorem put_one (nm s t : Tx) : D.put (full nm t) [full nm s] = [full nm t] := by
  unfold D.put
  rw [if_neg (by show ¬ D.lt nm nm = true; rw [D.lt_irrefl]; decide), if_pos (show (full nm s).name = (full nm t).name from rfl)]
theorem inv_one {room : Nat} {nm s : Tx} (h : s.length ≤ room) : D.Inv room [full nm s] :=
  ⟨List.pairwise_singleton _ _, fun f hf => by rw [List.mem_singleton] at hf; subst hf; exact Nat.le_refl _, by simp, by simpa [D.used, full] using h⟩
theorem named_one {n : Nat} (h1 : 1 ≤ n) (h9 : n ≤ 9) (s : Tx) : Named [full (nameS (n : Int)) s] := fun f hf => by
  rw [List.mem_singleton] at hf
  subst hf
  exact name_ok h1 h9
theorem temp_one {n : Nat} (h1 : 1 ≤ n) (h9 : n ≤ 9) (s : Tx) : D.find temp [full (nameS (n : Int)) s] = none := by
  rw [D.find, if_neg fun h => name_temp h1 h9 h.symm]; rfl
theorem create_one {room n first : Nat} (h1 : 1 ≤ n) (h9 : n ≤ 9) (hf : 1 ≤ first) (hf2 : first ≤ far) (hr : (segB first []).length ≤ room) : createD room (nameS (n : Int)) first [] = (0, [full (nameS (n : Int)) (segB first [])]) :=
  create_is (name_ok h1 h9) hf hf2 rfl (by simp) (by simpa [D.used] using hr)
theorem add_one {room n first : Nat} {es0 es : List R.En} (h1 : 1 ≤ n) (h9 : n ≤ 9) (hf : 1 ≤ first) (hf2 : first ≤ far) (hw : R.follows (es0 ++ es) ((first : Int) - 1) 0 = true) (hr : (segB first (es0 ++ es)).length ≤ room) :
    addD room (nameS (n : Int)) es [full (nameS (n : Int)) (segB first es0)] = (0, [full (nameS (n : Int)) (segB first (es0 ++ es))]) := by
  have hr2 := hr
  rw [segB_append, List.length_append] at hr2
  have := add_is (room := room) (name_ok h1 h9) hf hf2 (List.pairwise_singleton _ _) (find_one _ _) hw (by simpa [D.used, full] using hr2)
  rw [this, put_one]
theorem gap_one {room n first : Nat} {es0 es : List R.En} (hf : 1 ≤ first) (hf2 : first ≤ far) (hw : R.follows es0 ((first : Int) - 1) 0 = true) (hg : R.follows (es0 ++ es) ((first : Int) - 1) 0 = false) :
    addD room (nameS (n : Int)) es [full (nameS (n : Int)) (segB first es0)] = (11, [full (nameS (n : Int)) (segB first es0)]) :=
  add_gap hf hf2 (find_one _ _) hw hg
theorem load_one {n first : Nat} {es : List R.En} (hf : 1 ≤ first) (hf2 : first ≤ far) (hw : R.follows es ((first : Int) - 1) 0 = true) : loadD (nameS (n : Int)) [full (nameS (n : Int)) (segB first es)] = (0, first, es, false) :=
  load_find (find_one _ _) (load_seg hf hf2 hw)
theorem cut_one {room n : Nat} {s : Tx} {first : Nat} {es : List R.En} {t : Bool} {last : Int} (h1 : 1 ≤ n) (h9 : n ≤ 9) (hl : loadL s = some (first, es, t)) (hr : s.length + (segB first (upto last es)).length ≤ room) :
    cutD room (nameS (n : Int)) last [full (nameS (n : Int)) s] = (0, [full (nameS (n : Int)) (segB first (upto last es))]) := by
  have := cut_is (room := room) (last := last) (name_ok h1 h9) (List.pairwise_singleton _ _) (find_one _ _) hl (temp_one h1 h9 s) (by simp) (by simpa [D.used, full] using hr)
  rw [this, put_one]

/-- The examples. -/
abbrev p2 : List R.En := [plainE 5 1, plainE 6 1]
theorem seg_small {l : List R.En} (h : ∀ e ∈ l, (R.bytes e).length ≤ 60) (hl : l.length ≤ 3) : (segB 5 l).length ≤ 400 := by
  have := frames_len (k := 61) (l := l.map pay) fun p hp => by
    obtain ⟨e, he, rfl⟩ := List.mem_map.1 hp
    have := h e he
    unfold pay
    rw [List.length_cons]
    omega
  have h2 := N.putL_len6 (m := 5) (by omega)
  rw [segB_eq, List.length_append, F.frame_len]
  rw [List.length_map] at this
  unfold headP
  rw [List.length_cons]
  have : l.length * (61 + 8) ≤ 3 * 69 := Nat.mul_le_mul_right _ hl
  omega
theorem p2_small : ∀ e ∈ p2, (R.bytes e).length ≤ 60 := by decide +kernel
theorem p2_follows : R.follows p2 (((5 : Nat) : Int) - 1) 0 = true := by decide +kernel
theorem p2_gap : R.follows (p2 ++ [plainE 8 1]) (((5 : Nat) : Int) - 1) 0 = false := by decide +kernel
theorem shown_create : createD 1000 (nameS ((1 : Nat) : Int)) ((5 : Nat) : Int) [] = (0, [full (nameS ((1 : Nat) : Int)) (segB 5 [])]) :=
  create_one (by omega) (by omega) (by omega) (by decide) (by have := seg_small (l := []) (by simp) (by simp); omega)
theorem shown_add : addD 1000 (nameS ((1 : Nat) : Int)) p2 [full (nameS ((1 : Nat) : Int)) (segB 5 [])] = (0, [full (nameS ((1 : Nat) : Int)) (segB 5 p2)]) :=
  add_one (es0 := []) (by omega) (by omega) (by omega) (by decide) p2_follows (by have := seg_small p2_small (by simp); rw [List.nil_append]; omega)
theorem shown_load : loadD (nameS ((1 : Nat) : Int)) [full (nameS ((1 : Nat) : Int)) (segB 5 p2)] = (0, 5, p2, false) :=
  load_one (by omega) (by decide) p2_follows
theorem shown_gap : addD 1000 (nameS ((1 : Nat) : Int)) [plainE 8 1] [full (nameS ((1 : Nat) : Int)) (segB 5 p2)] = (11, [full (nameS ((1 : Nat) : Int)) (segB 5 p2)]) :=
  gap_one (by omega) (by decide) p2_follows p2_gap
theorem shown_inv0 : D.Inv 1000 [full (nameS ((1 : Nat) : Int)) (segB 5 [])] := inv_one (by have := seg_small (l := []) (by simp) (by simp); omega)
theorem shown_inv2 : D.Inv 1000 [full (nameS ((1 : Nat) : Int)) (segB 5 p2)] := inv_one (by have := seg_small p2_small (by simp); omega)
theorem name7 : nameS 7 = [115, 101, 103, 45, 55] := by have := name_small (n := 7) (by omega) (by omega); exact this
theorem num7 : numS [115, 101, 103, 45, 55] = 7 := by have := num_name (z := 7) (by omega); rw [name7] at this; exact this
end Go.Proofs.YtmfhipjceeijmaaGreatDoor.G
