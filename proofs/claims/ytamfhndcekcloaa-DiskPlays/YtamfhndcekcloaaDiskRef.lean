/-
  Walks of the document's disk (package bucketlineref8): where it lies, what only reads it.
-/
import Derived.Test.YtamfhndcekcloaaDiskIdx
import Derived.Test.YtamfhndcekcloaaBase
import Derived.Deep.RegionHeld3
namespace Go.Proofs.Ytamfhndcekcloaa.D
open Go.RowKit
attribute [local go_sem] ext_Bd ext_Bl ext_Bt toList_B add_B size_B get_Bt
variable {bs : Nat}

def cellsF (f : F) : List Value := [.string (B f.name), .string (B f.data), .int .i64 (f.syn : Int)]
def fileCells : List F → List Value
  | [] => []
  | f :: l => .string (B f.name) :: .string (B f.data) :: .int .i64 (f.syn : Int) :: fileCells l
theorem fileCells_len : ∀ l : List F, (fileCells l).length = l.length * 3
  | [] => rfl
  | f :: l => by simp [fileCells, fileCells_len l]; omega
theorem fileCells_app : ∀ l k : List F, fileCells (l ++ k) = fileCells l ++ fileCells k
  | [], _ => rfl
  | f :: l, k => by simp [fileCells, fileCells_app l k]
theorem fileCells_at : ∀ {l : List F} {i : Nat} (h : i < l.length), (fileCells l)[i * 3]? = some (.string (B l[i].name)) ∧ (fileCells l)[i * 3 + 1]? = some (.string (B l[i].data)) ∧ (fileCells l)[i * 3 + 2]? = some (.int .i64 (l[i].syn : Int))
  | f :: l, 0, _ => ⟨rfl, rfl, rfl⟩
  | f :: l, i + 1, h => by
    have := fileCells_at (l := l) (i := i) (by simpa using h)
    have e : (i + 1) * 3 = i * 3 + 1 + 1 + 1 := by omega
    rw [e]
    simp only [fileCells, List.getElem?_cons_succ, List.getElem_cons_succ]
    exact this
/-- The document's disk in block p: its room and its files. -/
def MAt (bs : Nat) (w : World) (p : Nat) (room : Int) (l : List F) : Prop :=
  bs ≤ p ∧ ∃ v, w.heap[p]? = some (.cells #[v, .int .i64 room] 60 (0, 0)) ∧ w.ownsRow bs 68 3 v l.length (fileCells l)
/-- What a walk reads of it. -/
structure MRd (w : World) (p : Nat) (room : Int) (l : List F) (a : Option Addr) (cap : Nat) : Prop where
  c0 : w.cell? ⟨p, 0, none⟩ = some (.slice a l.length cap)
  c1 : w.cell? ⟨p, 1, none⟩ = some (.int .i64 room)
  row : ∀ i (h : i < l.length), ∃ b off, a = some ⟨b, off, none⟩ ∧ w.cell? ⟨b, off + i * 3, none⟩ = some (.string (B l[i].name)) ∧ w.cell? ⟨b, off + i * 3 + 1, none⟩ = some (.string (B l[i].data)) ∧ w.cell? ⟨b, off + i * 3 + 2, none⟩ = some (.int .i64 (l[i].syn : Int))
theorem MAt.rd {w : World} {p : Nat} {room : Int} {l : List F} (h : MAt bs w p room l) : ∃ a cap, MRd w p room l a cap := by
  obtain ⟨_, v, hp, hr⟩ := h
  have hc : ∀ j, w.cell? ⟨p, j, none⟩ = #[v, .int .i64 room][j]? := fun j => by simp [World.cell?, hp]
  rcases hr.2 with ⟨rfl, h0⟩ | ⟨g, cap, cur, rfl, _, hg, hn, _, hsz, ht⟩
  · exact ⟨none, 0, by rw [hc 0, h0]; rfl, by rw [hc 1]; rfl, fun i hi => by omega⟩
  · refine ⟨some ⟨g, 0, none⟩, cap, by rw [hc 0]; rfl, by rw [hc 1]; rfl, fun i hi => ⟨g, 0, rfl, ?_⟩⟩
    have hcell : ∀ j, j < l.length * 3 → w.cell? ⟨g, j, none⟩ = (fileCells l)[j]? := fun j hj => by
      rw [← ht, List.getElem?_take_of_lt hj]
      simp [World.cell?, hg]
    obtain ⟨h1, h2, h3⟩ := fileCells_at hi
    rw [Nat.zero_add]
    exact ⟨by rw [hcell _ (by omega), h1], by rw [hcell _ (by omega), h2], by rw [hcell _ (by omega), h3]⟩
def isAt (n : Tx) (l : List F) : Bool := (find n l).isSome
theorem isAt_yes {n : Tx} {l : List F} {k : Nat} (hs : Sorted l) (hk : k = idx n l) (h : k < l.length) (he : l[k].name = n) : isAt n l = true := by
  subst hk; unfold isAt; rw [find_at hs h he]; rfl
theorem isAt_no {n : Tx} {l : List F} {k : Nat} (hs : Sorted l) (hk : k = idx n l) (he : ∀ h : k < l.length, l[k].name ≠ n) : isAt n l = false := by
  subst hk; unfold isAt; rw [find_off hs he]; rfl

set_option maxHeartbeats 2000000 in
set_option maxRecDepth 100000 in
theorem mFind_l (p : Nat) (room : Int) (l : List F) (n : Tx) (k : Nat) (is : Bool) (w : World) (hm : MAt bs w p room l) (hs : Sorted l) (hl : l.length ≤ 1000) (HK : Hid (idx n l = k)) (HI : Hid (isAt n l = is)) :
    Calls Try.prog 34 #[.pointer (some ⟨p, 0, none⟩), .string (B n)] w fun x w' => x = .returned (.tuple #[.int .i64 (k : Int), .bool is]) ∧ sQuiet w w' := by
  obtain ⟨a, cap, hr⟩ := hm.rd
  have HS := Lib.hid hs
  have c0 := hr.c0
  have HR := Lib.hid hr.row
  clear hm hr hs
  go_enter Try.func34, Try.ntmps34
  go_wp2
  go_loop [6] (fun i => ∃ j : Nat, i = .int .i64 j ∧ j ≤ l.length ∧ Hid (j ≤ idx n l)) (fun i => l.length - (intOf i).toNat)
  case atStart => exact ⟨0, rfl, Nat.zero_le _, Lib.hid (Nat.zero_le _)⟩
  case round =>
    obtain ⟨j, rfl, hj, HJ⟩ := hrel
    by_cases hlt : j < l.length
    · have hj1 : (j : Int) < (l.length : Int) := by omega
      obtain ⟨b, off, rfl, x0, -, -⟩ := HR.out j hlt
      have HN : Hid (lt l[j].name n = true → j + 1 ≤ idx n l) := Lib.hid fun h => idx_next hlt HJ.out h
      have HE : Hid (lt l[j].name n = false → j = idx n l) := Lib.hid fun h => idx_stop hlt HJ.out h
      have HY : Hid (j = idx n l → l[j].name = n → is = true) := Lib.hid fun h he => by rw [← HI.out]; exact isAt_yes HS.out h hlt he
      have HX : Hid (j = idx n l → l[j].name ≠ n → is = false) := Lib.hid fun h he => by rw [← HI.out]; exact isAt_no HS.out h fun _ => he
      generalize l[j].name = nm at x0 HN HE HY HX
      cases hq : lt nm n
      · have hq2 : Op.bytesLess nm n = false := hq
        have hjk := HE.out hq
        have EJK := Lib.hid (hjk.trans HK.out)
        by_cases he : nm = n
        · have HT := Lib.hid (HY.out hjk he)
          subst he
          clear hjk HN HE HY HX hq
          go_wp2
          go_quiet (fail)
          go_wp2
          go_ret2
          rw [HT.out, EJK.out]
          exact ⟨rfl, _, rfl⟩
        · have HT := Lib.hid (HX.out hjk he)
          have heb : (nm == n) = false := beq_eq_false_iff_ne.2 he
          clear hjk HN HE HY HX hq he
          go_wp2
          go_quiet (fail)
          go_wp2
          go_ret2
          rw [HT.out, EJK.out]
          exact ⟨rfl, _, rfl⟩
      · have hq2 : Op.bytesLess nm n = true := hq
        have HN2 := Lib.hid (HN.out hq)
        clear HN HE HY HX hq
        go_wp2
        go_round
        case rel => exact ⟨j + 1, by go_num, by omega, HN2⟩
        case measure => simp [intOf]; omega
    · have hj1 : ¬ (j : Int) < (l.length : Int) := by omega
      have hjk := idx_end hlt HJ.out
      have EJK := Lib.hid (hjk.trans HK.out)
      have HT := Lib.hid (show is = false by rw [← HI.out]; exact isAt_no HS.out hjk fun h => absurd h hlt)
      clear hjk
      go_wp2
      go_quiet (fail)
      go_wp2
      go_ret2
      rw [HT.out, EJK.out]
      exact ⟨rfl, _, rfl⟩
end Go.Proofs.Ytamfhndcekcloaa.D
