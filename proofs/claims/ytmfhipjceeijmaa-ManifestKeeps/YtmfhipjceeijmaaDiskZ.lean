/-
  The landed disk keeps its contracts.
-/
import Derived.Test.YtmfhipjceeijmaaDiskK
namespace Go.Proofs.Ytmfhipjceeijmaa.D
open Go.RowKit Go.Maps

section
variable {bs : Nat} {w : World} {p m room : Nat} {l : List F} {loc : Tx → Value}
theorem DA.base (h : DA bs w p m room l loc) {b2 : Nat} (hb : b2 ≤ bs) : DA b2 w p m room l loc :=
  ⟨h.blk, Nat.le_trans hb h.lop, Nat.le_trans hb h.lom, h.map, fun f hf => own_base (h.row f hf) hb, h.apart⟩
def AtL (bs : Nat) (w : World) (p room : Nat) (l : List F) (S : Nat → Prop) : Prop := ∃ m loc, DA bs w p m room l loc ∧ S = SA p m l loc
theorem Mv.out {l2 : List F} {w' : World} (h : Mv bs w p m room l loc l2 w') : (∃ S2, AtL bs w' p room l2 S2 ∧ Grow (SA p m l loc) w S2) ∧ But (SA p m l loc) w w' := by
  obtain ⟨⟨loc2, hd, hg⟩, hb⟩ := h
  exact ⟨⟨_, ⟨m, loc2, hd, rfl⟩, hg⟩, hb⟩
theorem dat_le (hi : Inv room l) {f : F} (hf : f ∈ l) : f.data.length ≤ room := by
  have := used_memb hf
  have := hi.room
  omega
end
theorem calls_mv {P : Program} {fn : Nat} {args : Array Value} {w : World} {x0 : Ending} {bs p m room : Nat} {l l2 : List F} {loc : Tx → Value} (h : Calls P fn args w fun x w' => x = x0 ∧ Mv bs w p m room l loc l2 w') :
    Calls P fn args w fun x w' => x = x0 ∧ (∃ S2, AtL bs w' p room l2 S2 ∧ Grow (SA p m l loc) w S2) ∧ But (SA p m l loc) w w' := h.mono fun _ _ ⟨a, b⟩ => ⟨a, b.out⟩
theorem isSome_none {l : List F} {n : Tx} {is : Bool} (h : (find n l).isSome = is) (hf : find n l = none ∧ 40 ≤ l.length → False) : is = false → l.length < 40 := fun e => by
  subst e
  have : find n l = none := by cases hq : find n l with
    | none => rfl
    | some f => rw [hq] at h; cases h
  exact Nat.lt_of_not_le fun h2 => hf ⟨this, h2⟩
def landed : DC where
  At := AtL
  keep := fun ⟨m, loc, h, hS⟩ _ hk => ⟨m, loc, h.ext fun k h2 => hk k (by rw [hS]; exact h2), hS⟩
  low := fun ⟨m, loc, h, hS⟩ hk => h.low (by rw [hS] at hk; exact hk)
  typ := fun ⟨m, loc, h, hS⟩ hk => h.typ (by rw [hS] at hk; exact hk)
  new_ok := fun {bs w} room hb h1 h2 => (new_ok room w hb h1 h2).mono fun x w' ⟨⟨p, m, hx, hp, hm, hd⟩, hbl⟩ => ⟨⟨p, _, hx, ⟨m, fun _ => .slice none 0 0, hd _, rfl⟩, fun k hk => by
    rcases hk with rfl | rfl | ⟨f, hf, _⟩
    · exact hp
    · exact hm
    · cases hf⟩, hbl⟩
  new_bad := fun {w} room h => new_bad room w h
  append := fun {bs w p room l S} n s e l2 ⟨m, loc, h, hS⟩ hi hro hn hs he => by
    subst hS
    have hu := hi.room
    have hmny := hi.many
    unfold D.append at he
    split at he
    · rename_i hq
      cases he
      exact calls_mv (app_name n s h (by omega) hq)
    rename_i hq
    split at he
    · rename_i h40
      cases he
      exact calls_mv (app_long n s h (by omega) (by simpa using hq) h40.1 h40.2)
    rename_i h40
    split at he
    · rename_i hf
      cases he
      exact calls_mv (app_full n s h hi.sorted (by omega) (by omega) (by omega) (by omega) (by simpa using hq) _ (Lib.hid rfl) (by omega) _ (Lib.hid rfl) (isSome_none rfl h40) hf)
    · rename_i hf
      cases he
      exact calls_mv (app_ok n s h hi.sorted (by omega) (by omega) (by omega) (by omega) (by simpa using hq) _ (Lib.hid rfl) (by omega) _ (Lib.hid rfl) (isSome_none rfl h40) (by omega) _ (Lib.hid rfl))
  sync := fun {bs w p room l S} n e l2 ⟨m, loc, h, hS⟩ hi hro hn he => by
    subst hS
    have hmny := hi.many
    unfold D.sync at he
    cases hf : find n l with
    | none =>
      rw [hf] at he
      cases he
      exact calls_mv (sync_none h n (by omega) hf)
    | some f =>
      rw [hf] at he
      cases he
      exact calls_mv (sync_some h hi.sorted (by omega) n f (by omega) hf)
  rename := fun {bs w p room l S} a b e l2 ⟨m, loc, h, hS⟩ hi hro ha hb he => by
    subst hS
    have hmny := hi.many
    unfold D.rename at he
    cases hf : find a l with
    | none =>
      rw [hf] at he
      cases he
      exact calls_mv (ren_none h a b (by omega) hf)
    | some f =>
      rw [hf] at he
      dsimp only at he
      split at he
      · rename_i hq
        cases he
        exact calls_mv (ren_bad h a b f (by omega) (by omega) hf hq)
      · rename_i hq
        cases he
        exact calls_mv (ren_ok h hi.sorted (by omega) a b f (by omega) (by omega) hf (by simpa using hq))
  delete := fun {bs w p room l S} n e l2 ⟨m, loc, h, hS⟩ hi hro hn he => by
    subst hS
    unfold D.delete at he
    cases hf : find n l with
    | none =>
      rw [hf] at he
      cases he
      exact calls_mv (delete_none h n (by omega) hf)
    | some f =>
      rw [hf] at he
      cases he
      exact calls_mv (delete_some h n f (by omega) hf)
  crash := fun {bs w p room l S} ks v ⟨m, loc, h, hS⟩ hi hro hk _ => by
    subst hS
    have hmny := hi.many
    exact calls_mv (crash_l h hi.sorted (by omega) hi.syn (fun f hf => by have := dat_le hi hf; omega) ks v hk)
  read := fun {bs w p room l S} n s e ⟨m, loc, h, hS⟩ hi hro hn he => by
    unfold D.read at he
    cases hf : find n l with
    | none =>
      rw [hf] at he
      cases he
      exact read_none h n (by omega) hf
    | some f =>
      rw [hf] at he
      cases he
      exact read_some h n f (by omega) hf
  used := fun {bs w p room l S} ⟨m, loc, h, hS⟩ hi hro => used_l h hi.sorted (by have := hi.room; omega)
  list := fun {bs w p room l S} ⟨m, loc, h, hS⟩ hi hro => list_l h hi.sorted (by have := hi.many; omega)
end Go.Proofs.Ytmfhipjceeijmaa.D
