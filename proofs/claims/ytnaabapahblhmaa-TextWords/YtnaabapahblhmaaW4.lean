/-
  Walks of Runes and Quote of package text: a range over a text in whose round a row of the call's own grows.
-/
import Derived.Test.YtnaabapahblhmaaW3
import Derived.WalkSmall
import Derived.StillTailTactics
namespace Go.Proofs.Ytnaabapahblhmaa
open Go.RowKit

theorem Try.info3 : (Try.prog.info? 3).map (fun i => (i.zero, i.size, i.bytes)) = some (some (.int .i64 0), 1, 8) := by kernel_rfl
theorem Try.info5 : (Try.prog.info? 5).map (fun i => (i.zero, i.size, i.bytes)) = some (some (.int .u8 0), 1, 1) := by kernel_rfl
theorem Try.info9 : (Try.prog.info? 9).map (fun i => (i.zero, i.size, i.bytes)) = some (some (.string ⟨#[]⟩), 1, 16) := by kernel_rfl

section
variable {w0 w wr w1 : World} {base k : Nat} {s : ByteArray} {pos : Nat} {e : TypeId} {v : Value} {n : Nat} {xs : List Value}

/-- A row that the call owns lies in no iterator's block. -/
theorem own_ne_iter (h : w.ownsRow base e 1 v n xs) (hk : w.heap[k]? = some (.stringIter s pos)) : v.ownBlock ≠ some k := by
  rcases h.2 with ⟨rfl, _⟩ | ⟨g, cap, cur, rfl, _, hg, _⟩
  · simp [Value.ownBlock]
  · intro e1
    simp [Value.ownBlock] at e1
    rw [e1, hk] at hg
    cases hg
theorem own_iterAt (h : w.ownsRow base e 1 v n xs) (hk : w.heap[k]? = some (.stringIter s pos)) (pos' : Nat) : (w.iterAt k s pos').ownsRow base e 1 v n xs := by
  have hne := own_ne_iter h hk
  refine ⟨h.1, ?_⟩
  rcases h.2 with hn | ⟨g, cap, cur, rfl, hb, hg, rest⟩
  · exact .inl hn
  · refine .inr ⟨g, cap, cur, rfl, hb, ?_, rest⟩
    rw [Lib.iterAt_other w k g s pos' (by simpa [Value.ownBlock] using hne)]
    exact hg
theorem iter_grown {o : Obj} (h : w.ownsRow base e 1 v n xs) (hk : w.heap[k]? = some (.stringIter s pos)) (hg : (w.alloc o).grownBy w1 v.ownBlock) : w1.heap[k]? = some (.stringIter s pos) := by
  have hlt : k < w.heap.size := (Array.getElem?_eq_some_iff.1 hk).1
  rw [hg.block k (by simp; omega) (fun e => own_ne_iter h hk e.symm), Below.heap_alloc w o k hlt]
  exact hk
theorem below_grown {o : Obj} (hb : Below base w0 w) (hle : base ≤ w.heap.size) (h : w.ownsRow base e 1 v n xs) (hg : (w.alloc o).grownBy w1 v.ownBlock) : Below base w0 w1 :=
  (hb.alloc hle o).grown hg (by simp; omega) (fun _ hk => (h.lt _ hk).1)
end

theorem num_at_bd (s : ByteArray) (pos : Nat) : -1 ≤ numAt s pos ∧ numAt s pos ≤ 1114111 := T.num_bd _
theorem raw_at_bd (s : ByteArray) (pos : Nat) : 0 ≤ rawAt s pos ∧ rawAt s pos ≤ 1114111 := T.raw_bd _

structure RnRel (l : List UInt8) (pos : Nat) (acc : List Int) : Prop where
  cut : T.nums l = acc ++ T.nums (l.drop pos)
  le : acc.length ≤ pos
theorem RnRel.go {l : List UInt8} {pos : Nat} {acc : List Int} (h : RnRel l pos acc) (hne : l.drop pos ≠ []) : RnRel l (pos + T.wid (l.drop pos)) (acc ++ [T.num (l.drop pos)]) := by
  refine ⟨?_, by have := T.wid_pos (l.drop pos); have := h.le; simp; omega⟩
  rw [h.cut, T.nums_cons hne, List.drop_drop]; simp
theorem RnRel.done {l : List UInt8} {pos : Nat} {acc : List Int} (h : RnRel l pos acc) (hl : l.length ≤ pos) : T.nums l = acc := by
  rw [h.cut, List.drop_of_length_le hl]; simp [T.nums, T.scan_nil]

def intCells (l : List Int) : List Value := l.map (Value.int .i64)
theorem intCells_len (l : List Int) : (intCells l).length = l.length := by simp [intCells]

def RunesPost (s : ByteArray) (w : World) (e : Ending) (w' : World) : Prop :=
  ∃ v, e = .returned v ∧ w'.ownsRow w.heap.size 3 1 v (T.nums (L s)).length (intCells (T.nums (L s))) ∧ Below w.heap.size w w'

set_option maxHeartbeats 400000 in
theorem Runes_any (s : ByteArray) (w : World) (hs : s.size ≤ 1000000) : Calls Try.prog 13 #[.string s] w (RunesPost s w) := by
  obtain ⟨i0, hi, hz0, hz1, hz2⟩ := info_parts Try.info3
  go_enter Try.func13, Try.ntmps13
  go_wp2
  go_loopw [3] (fun v wr => ∃ (pos : Nat) (acc : List Int), wr.ownsRow w.heap.size 3 1 v acc.length (intCells acc) ∧ wr.heap[w.heap.size]? = some (.stringIter s pos) ∧ Below w.heap.size w wr ∧ pos ≤ s.size ∧ RnRel (L s) pos acc) (fun _ wr => s.size - wr.iterPos w.heap.size)
  case atStart => exact ⟨0, [], World.ownsRow_nil _ _ _ _, iter_start w s, (Below.refl _ w).alloc (Nat.le_refl _) _, by omega, ⟨by simp, by simp⟩⟩
  case round =>
    rename_i v
    obtain ⟨pos, acc, hown, hit, hbw, hle, hg⟩ := hrel
    have hsz : w.heap.size < wr.heap.size := (Array.getElem?_eq_some_iff.1 hit).1
    have hal := hg.le
    have HG := Lib.hid hg; clear hg
    by_cases hp : pos < s.size
    · have hnx : ∀ ty, (Instr.next (.pointer (some ⟨w.heap.size, 0, none⟩)) true ty).run Try.prog wr = _ := fun ty => next_at wr w.heap.size s pos ty hit hp
      have hwd := wid_at s pos hp
      have hne := ne_at s pos hp
      have HNE := Lib.hid hne; clear hne
      have hit2 := Lib.iterAt_heap wr w.heap.size s pos (pos + widAt s pos) hit
      have hbw2 := Lib.below_iterAt hbw (k := w.heap.size) (Nat.le_refl _) s (pos + widAt s pos)
      have hown2 := own_iterAt hown hit (pos + widAt s pos)
      have hsz2 : w.heap.size ≤ (wr.iterAt w.heap.size s (pos + widAt s pos)).heap.size := by rw [Lib.iterAt_size]; omega
      have hnb := num_at_bd s pos
      go_wp2_with (first
        | (go_at_call 27; refine (runeNumber_at s pos _ (by omega)).mono ?_; rintro e w' ⟨rfl, rfl⟩)
        | (at_builtin; refine wpList_append_own _ rfl _ _ 24 rfl w.heap.size 3 i0 (.int .i64 0) 1 8 Try.underlying24 hi hz0 hz1 hz2 rfl (by decide) _ _ _ rfl (hown2.alloc _) ⟨(wr.iterAt w.heap.size s (pos + widAt s pos)).heap.size, 0, none⟩ 1 1 [.int .i64 (numAt s pos)] rfl rfl ?c1 ?c2 ?c3 ?c4 ?c5 ?_))
      case c1 =>
        intro j u hj
        match j, hj with
        | 0, hj => simp at hj; subst hj; simp [Addr.add]
      case c2 => intro u hu; simp at hu; subst hu; rfl
      case c3 => unfold maxLen; omega
      case c4 => omega
      case c5 => simp; omega
      intro v' w1 hown' hgrow _
      have hit3 := iter_grown hown2 hit2 hgrow
      have hbw3 := below_grown hbw2 hsz2 hown2 hgrow
      have hown3 : w1.ownsRow w.heap.size 3 1 v' (acc ++ [numAt s pos]).length (intCells (acc ++ [numAt s pos])) := by simpa [intCells] using hown'
      clear hown' hgrow
      go_wp2
      go_roundw
      case rel => exact ⟨pos + widAt s pos, acc ++ [numAt s pos], hown3, hit3, hbw3, hwd.2, HG.out.go HNE.out⟩
      case measure =>
        simp only [World.iterPos, hit3, hit]
        omega
    · have hnx : ∀ ty, (Instr.next (.pointer (some ⟨w.heap.size, 0, none⟩)) true ty).run Try.prog wr = _ := fun ty => Lib.run_next_end_at wr w.heap.size s pos ty hit hp
      have HS := Lib.hid (HG.out.done (by rw [L_len]; omega))
      go_wp2
      go_ret
      refine ⟨_, rfl, ?_, hbw⟩
      rw [HS.out]
      exact hown
end Go.Proofs.Ytnaabapahblhmaa
