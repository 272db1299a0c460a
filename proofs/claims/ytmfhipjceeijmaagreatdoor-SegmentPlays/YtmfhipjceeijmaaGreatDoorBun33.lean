/-
  Own texts, joined: FrameRef2
-/
import Derived.Test.YtmfhipjceeijmaaGreatDoorBun21
import Derived.Test.YtmfhipjceeijmaaGreatDoorBun28
import Derived.Laws.AppendOwn

/-
  Walks of the document's answer to layer 4 (package bucketlineref4): Row, Scan.
-/
namespace Go.Proofs.YtmfhipjceeijmaaGreatDoor
open Go.RowKit
attribute [local go_sem] ext_Bd ext_Bl ext_Bt toList_B add_B size_B get_Bt

set_option maxHeartbeats 1000000 in
set_option maxRecDepth 100000 in
theorem refFRow_l (ls : List (List UInt8)) (va : Value) (w : World) (ha : Reads w va (strCells ls)) (hn : ls.length ≤ 1000) :
    Calls Tryz.prog 82 #[va] w fun e w' => e = .returned (.tuple #[.string (B (rowS ls)), .int .i64 (F.codes ls)]) ∧ Below w.heap.size w w' := by
  obtain ⟨a, ca, rfl, hxa⟩ := ha
  simp only [strCells_len] at *
  have HXA := Lib.hid hxa; clear hxa
  obtain ⟨rs, HRS⟩ : ∃ rs, Hid (rowS ls = rs) := ⟨_, Lib.hid rfl⟩
  obtain ⟨rc, HRC⟩ : ∃ rc, Hid (F.codes ls = rc) := ⟨_, Lib.hid rfl⟩
  rw [HRS.out, HRC.out]
  go_enter Tryz.func82, Tryz.ntmps82
  go_wp2
  go_loopw [4, 5] (fun s i wr => ∃ k : Nat, i = .int .i64 k ∧ k ≤ ls.length ∧ s = .string (B (F.frames (ls.take k))) ∧ (∀ p ∈ ls.take k, F.good p) ∧ Below w.heap.size w wr) (fun _ i _ => ls.length - (intOf i).toNat)
  case atStart => exact ⟨0, rfl, Nat.zero_le _, rfl, by simp, Below.refl _ _⟩
  case round =>
    obtain ⟨k, rfl, hk, rfl, hgood, hbel⟩ := hrel
    have HGD := Lib.hid hgood
    clear hgood
    by_cases hlt : k < ls.length
    · obtain ⟨b1, o1, rfl, hc1⟩ := HXA.out k hlt
      have hcell : wr.cell? ⟨b1, o1 + k, none⟩ = some (.string (B ls[k])) := by
        have : w.cell? ⟨b1, o1 + k, none⟩ = some (.string (B ls[k])) := by rw [hc1]; simp [strCells, hlt]
        rw [hbel.cell (World.block_lt_of_cell? w _ this)]; exact this
      have hi1 : (k : Int) < (ls.length : Int) := by omega
      clear hc1
      by_cases hg : F.good ls[k]
      · have HG := Lib.hid (good_step hlt HGD.out hg)
        have HF := Lib.hid (F.frames_step hlt)
        have hxl := hg.2
        have hfl := F.frame_len ls[k]
        have hacc : (F.frames (ls.take k)).length ≤ 8008000 := by
          have h1 := frames_le HGD.out
          have h2 : (ls.take k).length ≤ k := by rw [List.length_take]; omega
          omega
        have HGX := Lib.hid hg; clear hg
        generalize ls[k] = x at *
        generalize F.frames (ls.take k) = acc at *
        go_wp2_with fail
        refine (chain (refFPut_ok x wr HGX.out) hbel).mono ?_
        rintro e w1 ⟨rfl, hb1⟩
        clear hbel hcell
        generalize F.frame x = f at *
        go_wp2
        go_roundw
        case rel => exact ⟨k + 1, by go_num, by omega, by rw [HF.out], HG.out, hb1⟩
        case measure => simp [intOf]; omega
      · have hne : F.code ls[k] ≠ 0 := fun h => hg (F.code_zero h)
        have HC := Lib.hid (F.codes_at hlt HGD.out hne)
        have HP := Lib.hid (putS_bad hne)
        have HCC := Lib.hid (show F.code ls[k] = rc by rw [← HC.out]; exact HRC.out)
        have HE := Lib.hid (show rs = [] by rw [← HRS.out]; exact rowS_bad (by rw [HC.out]; exact hne))
        have hrc : ((rc : Int) == 0) = false := beq_eq_false_iff_ne.2 (by have := HCC.out; omega)
        clear hg hne
        generalize ls[k] = x at *
        generalize F.frames (ls.take k) = acc at *
        go_wp2_with fail
        refine (chain (refFPut_at x [] rc wr HP HCC) hbel).mono ?_
        rintro e w1 ⟨rfl, hb1⟩
        clear hbel hcell
        go_wp2
        go_ret2
        rw [HE.out]
        exact ⟨rfl, hb1⟩
    · have HT := Lib.hid (show ls.take k = ls from List.take_of_length_le (by omega))
      have hgd := HGD.out
      rw [HT.out] at hgd ⊢
      have HZ := Lib.hid (F.codes_good hgd)
      have HE := Lib.hid (show rs = F.frames ls by rw [← HRS.out]; exact rowS_ok HZ.out)
      have HEC := Lib.hid (show rc = 0 by rw [← HRC.out]; exact HZ.out)
      clear hgd
      go_wp2
      go_ret2
      rw [HE.out, HEC.out]
      exact ⟨rfl, hbel⟩
theorem refFRow_at (ls : List (List UInt8)) (s : List UInt8) (c : Nat) (va : Value) (w : World) (ha : Reads w va (strCells ls)) (hn : ls.length ≤ 1000) (HS : Hid (rowS ls = s)) (HC : Hid (F.codes ls = c)) :
    Calls Tryz.prog 82 #[va] w fun e w' => e = .returned (.tuple #[.string (B s), .int .i64 c]) ∧ Below w.heap.size w w' := by
  rw [← HS.out, ← HC.out]; exact refFRow_l ls va w ha hn

structure ScanAt (s : List UInt8) (w : World) (v : Value) (wr : World) (ps : List (List UInt8)) (left : List UInt8) : Prop where
  own : wr.ownsRow w.heap.size 9 1 v ps.length (strCells ps)
  bel : Below w.heap.size w wr
  cut : s = F.frames ps ++ left
  good : ∀ p ∈ ps, F.good p
theorem ScanAt.start (s : List UInt8) (w : World) : ScanAt s w (.slice none 0 0) w [] s := ⟨World.ownsRow_nil _ _ _ _, Below.refl _ _, rfl, by simp⟩
theorem ScanAt.count {s : List UInt8} {w : World} {v : Value} {wr : World} {ps : List (List UInt8)} {left : List UInt8} (h : ScanAt s w v wr ps left) : ps.length ≤ s.length ∧ s.length = (F.frames ps).length + left.length := by
  have h1 := frames_ge ps
  have h2 := congrArg List.length h.cut
  rw [List.length_append] at h2
  omega

set_option maxHeartbeats 1000000 in
set_option maxRecDepth 100000 in
theorem refFScan_l (s : List UInt8) (w : World) (hs : s.length ≤ 1000000) :
    Calls Tryz.prog 43 #[.string (B s)] w fun e w' => ∃ v, e = .returned (.tuple #[v, .int .i64 ((F.scan s).2 : Nat)]) ∧ w'.ownsRow w.heap.size 9 1 v (F.scan s).1.length (strCells (F.scan s).1) ∧ Below w.heap.size w w' := by
  obtain ⟨i0, hi, hz0, hz1, hz2⟩ := info_parts Tryz.infoStr
  go_enter Tryz.func43, Tryz.ntmps43
  go_wp2
  go_loopw [4, 5] (fun v l wr => ∃ (ps : List (List UInt8)) (left : List UInt8), l = .string (B left) ∧ ScanAt s w v wr ps left) (fun _ l _ => strLen l)
  case atStart => exact ⟨[], s, rfl, ScanAt.start s w⟩
  case round =>
    obtain ⟨ps, left, rfl, hrel⟩ := hrel
    have hcnt := hrel.count
    have HREL := Lib.hid hrel
    have hown := hrel.own
    have hbel := hrel.bel
    clear hrel
    rcases F.take_cases left with ⟨e, ht, he⟩ | ⟨p, r, ht⟩
    · have hne : ((e : Int) == 0) = false := beq_eq_false_iff_ne.2 (by omega)
      have HD := Lib.hid (show F.scan s = (ps, (F.frames ps).length) by
        conv => lhs; rw [HREL.out.cut]
        exact F.scan_row ht HREL.out.good)
      have HT := Lib.hid (show ftRes (F.take left) = .tuple #[.string (B []), .string (B []), .int .i64 e] by rw [ht]; exact ftRes_bad e)
      clear ht
      go_wp2_with fail
      refine (refFTake_at left _ wr (by omega) HT).mono ?_
      rintro e1 w1 ⟨rfl, hb1⟩
      have ho1 := own_below hown hb1
      have hbb := hbel.trans (hb1.mono hbel.size)
      clear hown hbel hb1
      go_wp2
      go_ret2
      rw [HD.out]
      exact ⟨_, ret_two rfl (int_eq (by omega)), ho1, hbb⟩
    · have hlr : left.length = p.length + 8 + r.length := by
        have := congrArg List.length (F.take_inv ht).1
        rwa [List.length_append, F.frame_len] at this
      have HT := Lib.hid (show ftRes (F.take left) = .tuple #[.string (B p), .string (B r), .int .i64 0] by rw [ht]; exact ftRes_ok p r)
      have HI := Lib.hid (F.take_inv ht)
      clear ht
      go_wp2_with fail
      refine (refFTake_at left _ wr (by omega) HT).mono ?_
      rintro e1 w1 ⟨rfl, hb1⟩
      have ho1 := own_below hown hb1
      have hbb := hbel.trans (hb1.mono hbel.size)
      have hsz := hbb.size
      clear hown hbel hb1
      go_wp2_with (at_builtin; refine wpList_append_own _ rfl _ _ 67 rfl w.heap.size 9 i0 (.string ⟨#[]⟩) 1 16 Tryz.underlying67 hi hz0 hz1 hz2 rfl (by decide) _ _ _ rfl (ho1.alloc _) ⟨w1.heap.size, 0, none⟩ 1 1 [.string (B p)] rfl rfl (cell_one_new _ _ _) (by intro u hu; simp at hu; subst hu; rfl) (by unfold maxLen; omega) (by omega) (by simp; omega) ?_; intro v' w2 hown' hgrow _)
      have HR2 : Hid (ScanAt s w v' w2 (ps ++ [p]) r) := Lib.hid ⟨by
          have e1 : strCells (ps ++ [p]) = strCells ps ++ [.string (B p)] := by simp [strCells]
          rw [List.length_append, e1]; exact hown', below_grown hbb hsz ho1 hgrow, by
          rw [F.frames_append, F.frames_cons, F.frames_nil, List.append_nil, List.append_assoc, ← HI.out.1]; exact HREL.out.cut, by
          intro q hq
          rw [List.mem_append] at hq
          rcases hq with hq | hq
          · exact HREL.out.good q hq
          · simp at hq; subst hq; exact HI.out.2⟩
      clear hown' hgrow
      go_wp2
      go_roundw
      case rel => exact ⟨_, r, rfl, HR2.out⟩
      case measure => simp [strLen, size_B]; omega
end Go.Proofs.YtmfhipjceeijmaaGreatDoor
