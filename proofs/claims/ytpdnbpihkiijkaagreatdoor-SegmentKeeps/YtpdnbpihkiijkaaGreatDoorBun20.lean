/-
  Own texts, joined: FrameRow
-/
import Derived.Test.YtpdnbpihkiijkaaGreatDoorBun13
import Derived.Test.YtpdnbpihkiijkaaGreatDoorBun17

/-
  The walk of Row of package frame.
-/
namespace Go.Proofs.YtpdnbpihkiijkaaGreatDoor
open Go.RowKit
attribute [local go_sem] ext_Bd ext_Bl ext_Bt toList_B add_B size_B get_Bt

def rowS (ls : List (List UInt8)) : List UInt8 := if F.codes ls = 0 then F.frames ls else []
theorem rowS_ok {ls : List (List UInt8)} (h : F.codes ls = 0) : rowS ls = F.frames ls := by unfold rowS; rw [if_pos h]
theorem rowS_bad {ls : List (List UInt8)} (h : F.codes ls ≠ 0) : rowS ls = [] := by unfold rowS; rw [if_neg h]
theorem frames_le : ∀ {l : List (List UInt8)}, (∀ p ∈ l, F.good p) → (F.frames l).length ≤ 8008 * l.length
  | [], _ => by simp [F.frames]
  | q :: r, h => by
    have h1 := (h q (by simp)).2
    have h2 := frames_le (l := r) fun p hp => h p (by simp [hp])
    rw [F.frames_cons, List.length_append, F.frame_len, List.length_cons]
    omega

structure RowAt (ls : List (List UInt8)) (w wr : World) (k : Nat) : Prop where
  bd : Lib.IsBuilder 166 5 w.heap.size w.heap.size (Lib.byteCells (F.frames (ls.take k))) wr
  bel : Below w.heap.size w wr
  good : ∀ p ∈ ls.take k, F.good p
theorem RowAt.start (ls : List (List UInt8)) (w : World) : RowAt ls w (w.alloc (.cells #[.pointer none, .slice none 0 0] 166)) 0 :=
  ⟨Lib.fresh_isBuilder _ _ w, (Below.refl _ w).alloc (Nat.le_refl _) _, by simp⟩
theorem RowAt.len {ls : List (List UInt8)} {w wr : World} {k : Nat} (h : RowAt ls w wr k) (hk : k ≤ 100000000) : (F.frames (ls.take k)).length ≤ 800800000000 := by
  have h1 := frames_le h.good
  have h2 : (ls.take k).length ≤ k := by rw [List.length_take]; omega
  omega
theorem good_step {ls : List (List UInt8)} {k : Nat} (hk : k < ls.length) (h : ∀ p ∈ ls.take k, F.good p) (hg : F.good ls[k]) : ∀ p ∈ ls.take (k + 1), F.good p := by
  intro p hp
  rw [List.take_succ_eq_append_getElem hk, List.mem_append] at hp
  rcases hp with hp | hp
  · exact h p hp
  · simp at hp; subst hp; exact hg

set_option maxHeartbeats 1000000 in
set_option maxRecDepth 100000 in
theorem FRow_l (ls : List (List UInt8)) (va : Value) (w : World) (ha : Reads w va (strCells ls)) (hn : ls.length ≤ 100000000) :
    Calls Tryz.prog 97 #[va] w fun e w' => e = .returned (.tuple #[.string (B (rowS ls)), .int .i64 (F.codes ls)]) ∧ Below w.heap.size w w' := by
  obtain ⟨a, ca, rfl, hxa⟩ := ha
  simp only [strCells_len] at *
  have HXA := Lib.hid hxa; clear hxa
  obtain ⟨rs, HRS⟩ : ∃ rs, Hid (rowS ls = rs) := ⟨_, Lib.hid rfl⟩
  obtain ⟨rc, HRC⟩ : ∃ rc, Hid (F.codes ls = rc) := ⟨_, Lib.hid rfl⟩
  rw [HRS.out, HRC.out]
  go_enter Tryz.func97, Tryz.ntmps97
  go_wp2
  go_loopw [11] (fun i wr => ∃ k : Nat, i = .int .i64 k ∧ k ≤ ls.length ∧ RowAt ls w wr k) (fun i _ => ls.length - (intOf i).toNat)
  case atStart => exact ⟨0, rfl, Nat.zero_le _, RowAt.start ls w⟩
  case round =>
    obtain ⟨k, rfl, hk, hrel⟩ := hrel
    have hbel := hrel.bel
    have HREL := Lib.hid hrel
    clear hrel
    by_cases hlt : k < ls.length
    · obtain ⟨b1, o1, rfl, hc1⟩ := HXA.out k hlt
      have hcell : wr.cell? ⟨b1, o1 + k, none⟩ = some (.string (B ls[k])) := by
        have : w.cell? ⟨b1, o1 + k, none⟩ = some (.string (B ls[k])) := by rw [hc1]; simp [strCells, hlt]
        rw [hbel.cell (World.block_lt_of_cell? w _ this)]; exact this
      have hi1 : (k : Int) < (ls.length : Int) := by omega
      clear hc1
      by_cases hg : F.good ls[k]
      · have HG := Lib.hid (good_step hlt HREL.out.good hg)
        have HF := Lib.hid (F.frames_step hlt)
        have hxl := hg.2
        have hfl := F.frame_len ls[k]
        have hacc := HREL.out.len (by omega)
        have HGX := Lib.hid hg; clear hg
        generalize ls[k] = x at *
        go_wp2_with fail
        refine (FPut_ok x wr HGX.out).mono ?_
        rintro e w1 ⟨rfl, hb1⟩
        have HB1 := Lib.hid (builder_below HREL.out.bd hb1)
        have hbb := hbel.trans (hb1.mono hbel.size)
        have hsz := hbb.size
        clear hb1 hbel hcell
        generalize F.frame x = f at *
        go_wp2_with fail
        refine (Tryz.builderWrite w.heap.size w.heap.size _ (B f) w1 HB1.out (by rw [Lib.byteCells_length, size_B]; omega) hsz).mono ?_
        rintro e w2 ⟨rfl, hbd2, hb2⟩
        have HR2 : Hid (RowAt ls w w2 (k + 1)) := Lib.hid ⟨.inr (by rw [HF.out, Lib.byteCells_append, ← str_B f]; exact hbd2), hbb.trans hb2, HG.out⟩
        clear hbd2 hb2
        go_wp2
        go_roundw
        case rel => exact ⟨k + 1, by go_num, by omega, HR2.out⟩
        case measure => simp [intOf]; omega
      · have hne : F.code ls[k] ≠ 0 := fun h => hg (F.code_zero h)
        have HC := Lib.hid (F.codes_at hlt HREL.out.good hne)
        have HP := Lib.hid (putS_bad hne)
        have HCC := Lib.hid (show F.code ls[k] = rc by rw [← HC.out]; exact HRC.out)
        have HE := Lib.hid (show rs = [] by rw [← HRS.out]; exact rowS_bad (by rw [HC.out]; exact hne))
        have hrc : ((rc : Int) == 0) = false := beq_eq_false_iff_ne.2 (by have := HCC.out; omega)
        clear hg hne
        generalize ls[k] = x at *
        go_wp2_with fail
        refine (FPut_at x [] rc wr HP HCC).mono ?_
        rintro e w1 ⟨rfl, hb1⟩
        have hbb := hbel.trans (hb1.mono hbel.size)
        clear hb1 hbel hcell
        go_wp2
        go_ret2
        rw [HE.out]
        exact ⟨rfl, hbb⟩
    · have HT := Lib.hid (show ls.take k = ls from List.take_of_length_le (by omega))
      have hbd := HREL.out.bd
      have hgd := HREL.out.good
      rw [HT.out] at hbd hgd
      have HZ := Lib.hid (F.codes_good hgd)
      have HE := Lib.hid (show rs = F.frames ls by rw [← HRS.out]; exact rowS_ok HZ.out)
      have HEC := Lib.hid (show rc = 0 by rw [← HRC.out]; exact HZ.out)
      have HBD := Lib.hid hbd
      have hsz := hbel.size
      clear hbd hgd
      go_wp2_with fail
      refine (Tryz.builderString w.heap.size w.heap.size _ wr HBD.out hsz).mono ?_
      rintro e w2 ⟨rfl, hb2⟩
      have hbb := hbel.trans hb2
      clear hb2
      go_wp2
      go_ret2
      rw [HE.out, HEC.out]
      exact ⟨rfl, hbb⟩
theorem FRow_at (ls : List (List UInt8)) (s : List UInt8) (c : Nat) (va : Value) (w : World) (ha : Reads w va (strCells ls)) (hn : ls.length ≤ 100000000) (HS : Hid (rowS ls = s)) (HC : Hid (F.codes ls = c)) :
    Calls Tryz.prog 97 #[va] w fun e w' => e = .returned (.tuple #[.string (B s), .int .i64 c]) ∧ Below w.heap.size w w' := by
  rw [← HS.out, ← HC.out]; exact FRow_l ls va w ha hn
end Go.Proofs.YtpdnbpihkiijkaaGreatDoor
