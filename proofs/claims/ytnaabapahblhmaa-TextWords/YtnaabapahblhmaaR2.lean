/-
  Walks of the document's answer to layer 1 (package bucketlineref1): Runes, Name.
-/
import Derived.Test.YtnaabapahblhmaaR1
namespace Go.Proofs.Ytnaabapahblhmaa
open Go.RowKit
theorem ext_Bl (m : List UInt8) (k : Nat) : (B m).extract k m.length = B (m.drop k) := by rw [← size_B m, ext_Bd]
attribute [local go_sem] ext_Bd ext_Bl ext_Bt toList_B add_B size_B get_Bt

set_option maxHeartbeats 1000000 in
theorem refRunes_l (m : List UInt8) (w : World) (hs : m.length ≤ 1000000) :
    Calls Try.prog 14 #[.string (B m)] w fun e w' => ∃ v, e = .returned v ∧ w'.ownsRow w.heap.size 3 1 v (T.nums m).length (intCells (T.nums m)) ∧ Below w.heap.size w w' := by
  obtain ⟨i0, hi, hz0, hz1, hz2⟩ := info_parts Try.info3
  go_enter Try.func14, Try.ntmps14
  go_wp2
  go_loopw [3, 4] (fun v a wr => ∃ (pos : Nat) (acc : List Int), a = .int .i64 pos ∧ wr.ownsRow w.heap.size 3 1 v acc.length (intCells acc) ∧ Below w.heap.size w wr ∧ pos ≤ m.length ∧ RnRel m pos acc) (fun _ a _ => m.length - (intOf a).toNat)
  case atStart => exact ⟨0, [], rfl, World.ownsRow_nil _ _ _ _, Below.refl _ w, by omega, ⟨by simp, by simp⟩⟩
  case round =>
    obtain ⟨pos, acc, rfl, hown, hbw, hle, hg⟩ := hrel
    have hal := hg.le
    have hsz := hbw.size
    have HG := Lib.hid hg; clear hg
    by_cases hp : pos < m.length
    · have hne : m.drop pos ≠ [] := T.drop_ne hp
      have hwd := T.drop_wid hp
      have hwp := T.wid_pos (m.drop pos)
      have hnb := T.num_bd (m.drop pos)
      have HR := Lib.hid (HG.out.go hne)
      have hdl : (m.drop pos).length ≤ 1000000 := by simp; omega
      have hdp : 0 < (m.drop pos).length := by simp; omega
      have HNE := Lib.hid hne; clear hne
      have hps : pos ≤ (B m).size := by rw [size_B]; omega
      go_wp2_with fail
      with_reducible refine (size_l (m.drop pos) _ hdl hdp).mono ?_
      rintro e w' ⟨rfl, rfl⟩
      unfold szRes
      generalize T.wid (m.drop pos) = wd at *
      generalize T.num (m.drop pos) = nm at *
      go_wp2_with (at_builtin; refine wpList_append_own _ rfl _ _ 24 rfl w.heap.size 3 i0 (.int .i64 0) 1 8 Try.underlying24 hi hz0 hz1 hz2 rfl (by decide) _ _ _ rfl (hown.alloc _) ⟨wr.heap.size, 0, none⟩ 1 1 [.int .i64 nm] rfl rfl (cell_one_new _ _ _) (by intro u hu; simp at hu; subst hu; rfl) (by unfold maxLen; omega) (by omega) (by simp; omega) ?_; intro v' w1 hown' hgrow _)
      have hbw3 := below_grown hbw hsz hown hgrow
      have hown3 : w1.ownsRow w.heap.size 3 1 v' (acc ++ [nm]).length (intCells (acc ++ [nm])) := by simpa [intCells] using hown'
      clear hown' hgrow
      go_wp2
      go_roundw
      case rel => exact ⟨pos + wd, acc ++ [nm], by go_num, hown3, hbw3, hwd, HR.out⟩
      case measure => simp [intOf]; omega
    · have HS := Lib.hid (HG.out.done (by omega))
      go_wp2
      go_ret
      refine ⟨_, rfl, ?_, hbw⟩
      rw [HS.out]
      exact hown

theorem nameR_classes (r : Int) :
    ((97 ≤ r) ∧ (r ≤ 122) ∧ nameR r = true) ∨
    ((65 ≤ r) ∧ (r ≤ 90) ∧ nameR r = true) ∨
    ((48 ≤ r) ∧ (r ≤ 57) ∧ nameR r = true) ∨
    ((r < 48) ∧ (r != 45) = false ∧ nameR r = true) ∨
    ((91 ≤ r) ∧ (r < 97) ∧ (r != 45) = true ∧ (r != 95) = false ∧ nameR r = true) ∨
    ((r < 48) ∧ (r != 45) = true ∧ (r != 95) = true ∧ (r != 46) = false ∧ nameR r = true) ∨
    ((160 ≤ r) ∧ (r != 45) = true ∧ (r != 95) = true ∧ (r != 46) = true ∧ nameR r = true) ∨
    ((122 < r) ∧ (r < 160) ∧ (r != 45) = true ∧ (r != 95) = true ∧ (r != 46) = true ∧ nameR r = false) ∨
    ((91 ≤ r) ∧ (r < 97) ∧ (r != 45) = true ∧ (r != 95) = true ∧ (r != 46) = true ∧ nameR r = false) ∨
    ((58 ≤ r) ∧ (r < 65) ∧ (r != 45) = true ∧ (r != 95) = true ∧ (r != 46) = true ∧ nameR r = false) ∨
    ((r < 48) ∧ (r != 45) = true ∧ (r != 95) = true ∧ (r != 46) = true ∧ nameR r = false) := by
  simp only [bne_iff_ne, bne_eq_false_iff_eq, nameR, Bool.or_eq_true, Bool.and_eq_true, decide_eq_true_eq, Bool.or_eq_false_iff, Bool.and_eq_false_iff, decide_eq_false_iff_not, beq_iff_eq, beq_eq_false_iff_ne]
  omega

theorem all_take {l : List Int} {k : Nat} (h : k < l.length) (ha : (l.take k).all nameR = true) (hn : nameR l[k] = true) : (l.take (k + 1)).all nameR = true := by
  rw [List.take_succ_eq_append_getElem h, List.all_append, ha]; simp [hn]
theorem all_stop {l : List Int} {k : Nat} (h : k < l.length) (hn : nameR l[k] = false) : l.all nameR = false := by
  rw [List.all_eq_false]
  exact ⟨l[k], List.getElem_mem h, by simp [hn]⟩

set_option maxHeartbeats 4000000 in
theorem refName_l (m : List UInt8) (w : World) (hs : m.length ≤ 1000000) :
    Calls Try.prog 16 #[.string (B m)] w fun e w' => e = .returned (.bool (nameL m)) ∧ Below w.heap.size w w' := by
  go_enter Try.func16, Try.ntmps16
  go_wp2_with fail
  with_reducible refine (refRunes_l m w hs).mono ?_
  rintro e w1 ⟨v, rfl, hown, hb1⟩
  have hnl : nameL m = (decide (1 ≤ (T.nums m).length) && decide ((T.nums m).length ≤ 32) && (T.nums m).all nameR) := rfl
  generalize T.nums m = A at *
  have HN := Lib.hid hnl; clear hnl
  obtain ⟨a, cap, hv, hca⟩ := reads_own hown
  rw [intCells_len] at hv hca
  subst hv
  have HCA := Lib.hid hca; clear hca hown
  by_cases h1 : A.length < 1
  · have H := Lib.hid (show nameL m = false by rw [HN.out]; simp; omega)
    go_wp2
    go_ret
    rw [H.out]
    exact ⟨rfl, hb1⟩
  by_cases h2 : 32 < A.length
  · have H := Lib.hid (show nameL m = false by rw [HN.out]; simp; omega)
    go_wp2
    go_ret
    rw [H.out]
    exact ⟨rfl, hb1⟩
  have HM := Lib.hid (show nameL m = A.all nameR by rw [HN.out, decide_eq_true (by omega), decide_eq_true (by omega)]; simp)
  go_wp2
  go_loop [4] (fun i => ∃ k : Nat, i = .int .i64 k ∧ k ≤ A.length ∧ (A.take k).all nameR = true) (fun i => A.length - (intOf i).toNat)
  case atStart => exact ⟨0, rfl, by omega, by simp⟩
  case round =>
    obtain ⟨k, rfl, hk, ha⟩ := hrel
    have HA := Lib.hid ha; clear ha
    by_cases hlt : k < A.length
    · obtain ⟨b1, o1, rfl, hc1⟩ := HCA.out k hlt
      have hc : w1.cell? ⟨b1, o1 + k, none⟩ = some (.int .i64 A[k]) := by rw [hc1]; simp [intCells, hlt]
      have hi1 : (k : Int) < (A.length : Int) := by omega
      have HT := Lib.hid (fun h => all_take hlt HA.out h)
      have HF := Lib.hid (fun h => HM.out.trans (all_stop hlt h))
      clear hc1
      generalize A[k] = r at *
      rcases nameR_classes r with ⟨x, y, n⟩ | ⟨x, y, n⟩ | ⟨x, y, n⟩ | ⟨x, e1, n⟩ | ⟨x, y, e1, e2, n⟩ | ⟨x, e1, e2, e3, n⟩ | ⟨x, e1, e2, e3, n⟩ | ⟨x, y, e1, e2, e3, n⟩ | ⟨x, y, e1, e2, e3, n⟩ | ⟨x, y, e1, e2, e3, n⟩ | ⟨x, e1, e2, e3, n⟩
      all_goals
        have N := Lib.hid n
        clear n
        try (have d122 : decide (r ≤ 122) = false := (by simp; omega))
        try (have d90 : decide (r ≤ 90) = false := (by simp; omega))
        try (have d57 : decide (r ≤ 57) = false := (by simp; omega))
      iterate 7
        · have H := Lib.hid (HT.out N.out)
          go_wp2
          go_round
          case rel => first | exact ⟨k + 1, by go_num, by omega, H.out⟩ | ((repeat apply Exists.intro); exact ⟨⟨k + 1, by go_num, by omega, H.out⟩, rfl⟩)
          case measure => simp [intOf]; omega
      all_goals
        have H := Lib.hid (HF.out N.out)
        go_wp2
        go_ret
        rw [H.out]
        exact ⟨rfl, hb1⟩
    · have H := Lib.hid (show nameL m = true by rw [HM.out, ← HA.out, List.take_of_length_le (by omega)])
      go_wp2
      go_ret
      rw [H.out]
      exact ⟨rfl, hb1⟩
end Go.Proofs.Ytnaabapahblhmaa
