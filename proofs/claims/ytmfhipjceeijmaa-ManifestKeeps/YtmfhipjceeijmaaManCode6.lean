/-
  The manifest package: keep, Raise, Epoch.
-/
import Derived.Test.YtmfhipjceeijmaaManCode5
namespace Go.Proofs.Ytmfhipjceeijmaa.A
open Go.RowKit
open D (Tx ReadsI i64B readsI_below dP)
attribute [local go_sem] ext_Bd ext_Bl ext_Bt toList_B add_B size_B get_Bt

section
variable (C : D.DC) {bs : Nat} {w : World} {p room : Nat} {l : List D.F} {S : Nat → Prop}
set_option maxRecDepth 100000 in
set_option maxHeartbeats 2000000 in
theorem keep_l (a k : Nat) (b : Bool) (z e : Nat) (l2 : List D.F) (hA : C.At bs w p room l S) (hI : D.Inv room l) (hroom : room ≤ 100000000) (hz : z ≤ far) (hE : epochD l = (a, k, b)) (H : keepD room z l = (e, l2)) :
    Calls Try.prog 32 #[.agg #[.int .i64 (a : Int), .int .i64 (k : Int), .bool b], dP p, .int .i64 (z : Int)] w fun x w' => x = .returned (.int .i64 (e : Int)) ∧ (∃ S2, C.At bs w' p room l2 S2 ∧ D.Grow S w S2) ∧ D.But S w w' := by
  have HB := Lib.hid ((Below.refl w.heap.size w).alloc (Nat.le_refl _) (.cells #[.int .i64 (a : Int), .int .i64 (k : Int), .bool b] 73))
  have HC := Lib.hid (heap_alloc_new w (.cells #[.int .i64 (a : Int), .int .i64 (k : Int), .bool b] 73))
  have HA := Lib.hid (C.below hA HB.out)
  have HI := Lib.hid hI
  obtain ⟨g, hge⟩ : ∃ g, w.heap.size = g := ⟨_, rfl⟩
  rw [hge] at HC
  have HGE := Lib.hid hge
  have HPG := Lib.hid (put_good hz).1
  obtain ⟨pl, hpl⟩ : ∃ pl, N.putL z = pl := ⟨_, rfl⟩
  have hK : (if b = true ∧ k ≤ 20 then D.append room markN (F.frame pl) l else replaceD room markN pl l) = (e, l2) := by
    unfold keepD at H
    rw [hE, hpl] at H
    exact H
  rw [hpl] at HPG
  have HPL := Lib.hid hpl
  have hz2 : z ≤ 1099511627776 := by unfold far at hz; omega
  clear hge hA hI hpl H hz hE
  go_enter Try.func32, Try.ntmps32
  go_upto_region 1 with (fail)
  rw [HGE.out]
  generalize w.alloc (.cells #[.int .i64 (a : Int), .int .i64 (k : Int), .bool b] 73) = W at *
  go_wp2_with fail
  refine (PutN z pl W hz2 HPL).mono ?_
  rintro x w1 ⟨rfl, hb1⟩
  have HB1 := Lib.hid (HB.out.trans (hb1.mono HB.out.size))
  have HA1 := Lib.hid (C.below HA.out hb1)
  have HC1 := Lib.hid ((hb1.block g (lt_of_block HC.out)).trans HC.out)
  clear hb1 HB HA HC
  have k0 := blkA HC1.out 0
  have k1 := blkA HC1.out 1
  have k2 := blkA HC1.out 2
  simp only [List.getElem?_toArray, List.getElem?_cons_zero, List.getElem?_cons_succ] at k0 k1 k2
  by_cases hb : b = true
  · subst hb
    by_cases hk : k ≤ 20
    · have hki : (k : Int) ≤ 20 := by omega
      have HK := Lib.hid (show D.append room markN (F.frame pl) l = (e, l2) by rw [if_pos ⟨rfl, hk⟩] at hK; exact hK)
      clear hK
      go_wp2_with fail
      refine (extend_l C markN pl e l2 HA1.out HI.out hroom (by simp [markN]) HPG.out HK.out).mono ?_
      rintro x w2 ⟨rfl, ⟨S2, hA2, hg2⟩, hb2⟩
      have HR := Lib.hid (show (∃ S2, C.At bs w2 p room l2 S2 ∧ D.Grow S w S2) ∧ D.But S w w2 from ⟨⟨S2, hA2, hg2.wide HB1.out.size⟩, (D.But.of_below HB1.out).trans hb2⟩)
      clear hA2 hg2 hb2
      go_wp2
      go_ret
      exact ⟨rfl, HR.out⟩
    · have hki : ¬ (k : Int) ≤ 20 := by omega
      have HK := Lib.hid (show replaceD room markN pl l = (e, l2) by rw [if_neg fun h => hk h.2] at hK; exact hK)
      clear hK
      go_wp2_with fail
      refine (replace_l C markN pl e l2 HA1.out HI.out hroom (by simp [markN]) HPG.out HK.out).mono ?_
      rintro x w2 ⟨rfl, ⟨S2, hA2, hg2⟩, hb2⟩
      have HR := Lib.hid (show (∃ S2, C.At bs w2 p room l2 S2 ∧ D.Grow S w S2) ∧ D.But S w w2 from ⟨⟨S2, hA2, hg2.wide HB1.out.size⟩, (D.But.of_below HB1.out).trans hb2⟩)
      clear hA2 hg2 hb2
      go_wp2
      go_ret
      exact ⟨rfl, HR.out⟩
  · obtain rfl : b = false := by simpa using hb
    have HK := Lib.hid (show replaceD room markN pl l = (e, l2) by rw [if_neg fun h => hb h.1] at hK; exact hK)
    clear hK hb
    go_wp2_with fail
    refine (replace_l C markN pl e l2 HA1.out HI.out hroom (by simp [markN]) HPG.out HK.out).mono ?_
    rintro x w2 ⟨rfl, ⟨S2, hA2, hg2⟩, hb2⟩
    have HR := Lib.hid (show (∃ S2, C.At bs w2 p room l2 S2 ∧ D.Grow S w S2) ∧ D.But S w w2 from ⟨⟨S2, hA2, hg2.wide HB1.out.size⟩, (D.But.of_below HB1.out).trans hb2⟩)
    clear hA2 hg2 hb2
    go_wp2
    go_ret
    exact ⟨rfl, HR.out⟩
set_option maxRecDepth 100000 in
set_option maxHeartbeats 1000000 in
theorem Epoch_l (a k : Nat) (b : Bool) (hA : C.At bs w p room l S) (hI : D.Inv room l) (hroom : room ≤ 100000000) (H : epochD l = (a, k, b)) :
    Calls Try.prog 15 #[dP p] w fun x w' => x = .returned (.int .i64 (a : Int)) ∧ Below w.heap.size w w' := by
  have HM := Lib.hid (marksOf_l C a k b hA hI hroom H)
  have kf : ∀ w1 : World, (Instr.field 73 (.agg #[.int .i64 (a : Int), .int .i64 (k : Int), .bool b]) 0).run Try.prog w1 = .ok (.int .i64 (a : Int)) w1 := fun w1 => by kernel_rfl
  clear hA hI H
  go_enter Try.func15, Try.ntmps15
  go_wp2_with fail
  refine HM.out.mono ?_
  rintro x w1 ⟨rfl, hb1⟩
  go_wp2
  go_ret
  exact ⟨rfl, hb1⟩
set_option maxRecDepth 100000 in
set_option maxHeartbeats 2000000 in
theorem Raise_l (z : Int) (e : Nat) (l2 : List D.F) (hA : C.At bs w p room l S) (hI : D.Inv room l) (hroom : room ≤ 100000000) (H : raiseD room z l = (e, l2)) :
    Calls Try.prog 14 #[dP p, .int .i64 z] w fun x w' => x = .returned (.int .i64 (e : Int)) ∧ (∃ S2, C.At bs w' p room l2 S2 ∧ D.Grow S w S2) ∧ D.But S w w' := by
  have HA := Lib.hid hA
  have HI := Lib.hid hI
  obtain ⟨⟨a, k, b⟩, hep⟩ : ∃ q, epochD l = q := ⟨_, rfl⟩
  have HEP := Lib.hid hep
  unfold raiseD at H
  by_cases hz : z < 1 ∨ (far : Int) < z
  · rw [if_pos hz] at H
    cases H
    have HBT : Hid (decide ((1 : Int) ≤ z ∧ z ≤ 274877906944) = false) := Lib.hid (by unfold far at hz; rw [decide_eq_false_iff_not]; omega)
    clear hz hA hI hep
    go_enter Try.func14, Try.ntmps14
    go_wp2_with (go_at_call 30; refine (between_l _ _ _ false _ HBT).mono ?_; rintro x w' ⟨rfl, rfl⟩)
    go_ret
    exact ⟨rfl, ⟨S, HA.out, fun _ h => .inl h⟩, D.But.refl _ _⟩
  rw [if_neg hz] at H
  obtain ⟨n, rfl⟩ : ∃ n : Nat, z = n := ⟨z.toNat, by omega⟩
  have hn : n ≤ far := by omega
  have HBT : Hid (decide ((1 : Int) ≤ (n : Int) ∧ (n : Int) ≤ 274877906944) = true) := Lib.hid (by unfold far at hz; rw [decide_eq_true_eq]; omega)
  rw [Int.toNat_natCast, hep] at H
  dsimp only at H
  have HM := Lib.hid (marksOf_l C a k b hA hI hroom hep)
  have HNF := Lib.hid hn
  clear hz hA hI hep hn
  by_cases h1 : n < a
  · have h1i : (n : Int) < (a : Int) := by omega
    rw [if_pos h1] at H
    cases H
    go_enter Try.func14, Try.ntmps14
    go_wp2_with (go_at_call 30; refine (between_l _ _ _ true _ HBT).mono ?_; rintro x w ⟨rfl, rfl⟩)
    refine HM.out.mono ?_
    rintro x w1 ⟨rfl, hb1⟩
    have HB2 := Lib.hid (hb1.alloc hb1.size (.cells #[.int .i64 (a : Int), .int .i64 (k : Int), .bool b] 73))
    have HC2 := Lib.hid (heap_alloc_new w1 (.cells #[.int .i64 (a : Int), .int .i64 (k : Int), .bool b] 73))
    go_upto_region 4 with (fail)
    generalize hW : w1.alloc (.cells #[.int .i64 (a : Int), .int .i64 (k : Int), .bool b] 73) = W at *
    have k0 := blkA HC2.out 0
    simp only [List.getElem?_toArray, List.getElem?_cons_zero] at k0
    clear hW
    go_wp2
    go_ret
    exact ⟨rfl, ⟨S, C.below HA.out HB2.out, fun _ h => .inl h⟩, D.But.of_below HB2.out⟩
  · have h1i : ¬ (n : Int) < (a : Int) := by omega
    rw [if_neg h1] at H
    by_cases h2 : a < n
    · have h2i : (a : Int) < (n : Int) := by omega
      rw [if_pos h2] at H
      obtain ⟨⟨e1, l1⟩, hk⟩ : ∃ q, keepD room n l = q := ⟨_, rfl⟩
      rw [hk] at H
      dsimp only at H
      have HK := Lib.hid hk
      have HI1 := Lib.hid (show D.Inv room l1 by have := keep_inv (room := room) (e := n) HI.out; rw [hk] at this; exact this)
      clear hk
      go_enter Try.func14, Try.ntmps14
      go_wp2_with (go_at_call 30; refine (between_l _ _ _ true _ HBT).mono ?_; rintro x w ⟨rfl, rfl⟩)
      refine HM.out.mono ?_
      rintro x w1 ⟨rfl, hb1⟩
      have HB2 := Lib.hid (hb1.alloc hb1.size (.cells #[.int .i64 (a : Int), .int .i64 (k : Int), .bool b] 73))
      have HC2 := Lib.hid (heap_alloc_new w1 (.cells #[.int .i64 (a : Int), .int .i64 (k : Int), .bool b] 73))
      go_upto_region 4 with (fail)
      generalize hW : w1.alloc (.cells #[.int .i64 (a : Int), .int .i64 (k : Int), .bool b] 73) = W at *
      have k0 := blkA HC2.out 0
      have k1 := blkA HC2.out 1
      have k2 := blkA HC2.out 2
      simp only [List.getElem?_toArray, List.getElem?_cons_zero, List.getElem?_cons_succ] at k0 k1 k2
      have HA2 := Lib.hid (C.below HA.out HB2.out)
      clear hW hb1 HM
      go_wp2_with fail
      refine (keep_l C a k b n e1 l1 HA2.out HI.out hroom HNF.out HEP.out HK.out).mono ?_
      rintro x w3 ⟨rfl, ⟨S3, hA3, hg3⟩, hb3⟩
      have HA3 := Lib.hid hA3
      have HG3 := Lib.hid (hg3.wide HB2.out.size)
      have HB3 := Lib.hid ((D.But.of_below (S := S) HB2.out).trans hb3)
      clear hA3 hg3 hb3 k0 k1 k2
      by_cases h0 : e1 = 0
      · subst h0
        rw [if_pos rfl] at H
        have HSY := Lib.hid H
        clear H
        go_wp2_with fail
        refine (C.sync markN e l2 HA3.out HI1.out (by omega) (by simp [markN]) HSY.out).mono ?_
        rintro x w4 ⟨rfl, ⟨S4, hA4, hg4⟩, hb4⟩
        have HR := Lib.hid (show (∃ S2, C.At bs w4 p room l2 S2 ∧ D.Grow S w S2) ∧ D.But S w w4 from ⟨⟨S4, hA4, HG3.out.next hg4 HB3.out.size⟩, HB3.out.next hb4 HG3.out⟩)
        clear hA4 hg4 hb4
        go_wp2
        go_ret
        exact ⟨rfl, HR.out⟩
      · rw [if_neg h0] at H
        cases H
        have hei : ((e : Int) == 0) = false := beq_eq_false_iff_ne.2 (by omega)
        have hen : ¬ (e : Int) = 0 := by omega
        have HR := Lib.hid (show (∃ S2, C.At bs w3 p room l2 S2 ∧ D.Grow S w S2) ∧ D.But S w w3 from ⟨⟨S3, HA3.out, HG3.out⟩, HB3.out⟩)
        clear h0
        go_wp2
        go_ret
        exact ⟨rfl, HR.out⟩
    · have h2i : ¬ (a : Int) < (n : Int) := by omega
      rw [if_neg h2] at H
      have HSY := Lib.hid H
      clear H
      go_enter Try.func14, Try.ntmps14
      go_wp2_with (go_at_call 30; refine (between_l _ _ _ true _ HBT).mono ?_; rintro x w ⟨rfl, rfl⟩)
      refine HM.out.mono ?_
      rintro x w1 ⟨rfl, hb1⟩
      have HB2 := Lib.hid (hb1.alloc hb1.size (.cells #[.int .i64 (a : Int), .int .i64 (k : Int), .bool b] 73))
      have HC2 := Lib.hid (heap_alloc_new w1 (.cells #[.int .i64 (a : Int), .int .i64 (k : Int), .bool b] 73))
      go_upto_region 4 with (fail)
      generalize hW : w1.alloc (.cells #[.int .i64 (a : Int), .int .i64 (k : Int), .bool b] 73) = W at *
      have k0 := blkA HC2.out 0
      simp only [List.getElem?_toArray, List.getElem?_cons_zero] at k0
      have HA2 := Lib.hid (C.below HA.out HB2.out)
      clear hW hb1 HM
      go_wp2_with fail
      refine (C.sync markN e l2 HA2.out HI.out (by omega) (by simp [markN]) HSY.out).mono ?_
      rintro x w4 ⟨rfl, ⟨S4, hA4, hg4⟩, hb4⟩
      have HR := Lib.hid (show (∃ S2, C.At bs w4 p room l2 S2 ∧ D.Grow S w S2) ∧ D.But S w w4 from ⟨⟨S4, hA4, hg4.wide HB2.out.size⟩, (D.But.of_below HB2.out).trans hb4⟩)
      clear hA4 hg4 hb4
      go_wp2
      go_ret
      exact ⟨rfl, HR.out⟩
end
end Go.Proofs.Ytmfhipjceeijmaa.A
