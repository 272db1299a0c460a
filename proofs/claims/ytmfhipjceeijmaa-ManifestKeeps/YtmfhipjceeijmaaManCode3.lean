/-
  The manifest package: bytesOf, extend, replace, Save, Load.
-/
import Derived.Test.YtmfhipjceeijmaaManCode2
namespace Go.Proofs.Ytmfhipjceeijmaa.A
open Go.RowKit
open D (Tx ReadsI i64B readsI_below dP)
attribute [local go_sem] ext_Bd ext_Bl ext_Bt toList_B add_B size_B get_Bt

section
variable (C : D.DC) {bs : Nat} {w : World} {p room : Nat} {l : List D.F} {S : Nat → Prop}
set_option maxRecDepth 100000 in
set_option maxHeartbeats 1000000 in
theorem bytesOf_l (nm s : Tx) (e : Nat) (b : Bool) (hA : C.At bs w p room l S) (hI : D.Inv room l) (hroom : room ≤ 100000000) (hnm : nm.length ≤ 14) (H : D.read nm l = (s, e)) (Hb : Hid (decide (e = 0) = b)) :
    Calls Try.prog 27 #[dP p, .string (B nm)] w fun x w' => x = .returned (.tuple #[.string (B s), .bool b]) ∧ Below w.heap.size w w' := by
  have HRD := Lib.hid (C.read nm s e hA hI (by omega) (by omega) H)
  clear hA hI H
  by_cases h0 : e = 0
  · subst h0
    have HB : Hid (b = true) := Lib.hid (by rw [← Hb.out]; rfl)
    clear Hb
    go_enter Try.func27, Try.ntmps27
    go_wp2_with fail
    refine HRD.out.mono ?_
    rintro x w1 ⟨rfl, hb1⟩
    go_wp2
    go_ret2
    rw [HB.out]
    exact ⟨rfl, hb1⟩
  · have HB : Hid (b = false) := Lib.hid (by rw [← Hb.out]; exact decide_eq_false h0)
    have hei : ((e : Int) == 0) = false := beq_eq_false_iff_ne.2 (by omega)
    clear Hb
    go_enter Try.func27, Try.ntmps27
    go_wp2_with fail
    refine HRD.out.mono ?_
    rintro x w1 ⟨rfl, hb1⟩
    go_wp2
    go_ret2
    rw [HB.out]
    exact ⟨by first | rfl | (simp [hei]; omega), hb1⟩
set_option maxRecDepth 100000 in
set_option maxHeartbeats 1000000 in
theorem extend_l (nm pl : Tx) (e : Nat) (l2 : List D.F) (hA : C.At bs w p room l S) (hI : D.Inv room l) (hroom : room ≤ 100000000) (hnm : nm.length ≤ 14) (hg : F.good pl) (H : D.append room nm (F.frame pl) l = (e, l2)) :
    Calls Try.prog 35 #[dP p, .string (B nm), .string (B pl)] w fun x w' => x = .returned (.int .i64 (e : Int)) ∧ (∃ S2, C.At bs w' p room l2 S2 ∧ D.Grow S w S2) ∧ D.But S w w' := by
  have HP := Lib.hid (FPut_ok pl w hg)
  have hfl : (F.frame pl).length ≤ 8008 := by rw [F.frame_len]; have := hg.2; omega
  have HE := Lib.hid H
  have HI := Lib.hid hI
  have HA := Lib.hid hA
  clear H hI hA hg
  generalize F.frame pl = s at *
  go_enter Try.func35, Try.ntmps35
  go_wp2_with fail
  refine HP.out.mono ?_
  rintro x w1 ⟨rfl, hb1⟩
  have HA1 := Lib.hid (C.below HA.out hb1)
  have HB1 := Lib.hid hb1
  clear hb1
  go_wp2_with fail
  refine (C.append nm s e l2 HA1.out HI.out (by omega) (by omega) (by omega) HE.out).mono ?_
  rintro x w2 ⟨rfl, ⟨S2, hA2, hg2⟩, hb2⟩
  have HR := Lib.hid (show (∃ S2, C.At bs w2 p room l2 S2 ∧ D.Grow S w S2) ∧ D.But S w w2 from ⟨⟨S2, hA2, hg2.wide HB1.out.size⟩, (D.But.of_below HB1.out).trans hb2⟩)
  clear hA2 hg2 hb2
  go_wp2
  go_ret
  exact ⟨rfl, HR.out⟩
theorem delete_is (n : Tx) (l : List D.F) : ∃ x, D.delete n l = (x, D.del n l) := by
  unfold D.delete
  cases h : D.find n l with
  | none => exact ⟨6, by rw [D.del_none h]⟩
  | some f => exact ⟨0, rfl⟩
theorem replaceD_of {room : Nat} {nm pl : Tx} {l l2 la : List D.F} {e e1 : Nat} (ha : D.append room temp (F.frame pl) (D.del temp l) = (e1, la)) (H : replaceD room nm pl l = (e, l2)) :
    (e1 = 0 ∧ ∃ l3, D.sync temp la = (0, l3) ∧ D.rename temp nm l3 = (e, l2)) ∨ (e1 ≠ 0 ∧ e = e1 ∧ l2 = D.del temp l ∧ la = D.del temp l) := by
  unfold replaceD at H
  rw [ha] at H
  dsimp only at H
  by_cases h0 : e1 = 0
  · rw [if_pos h0] at H
    subst h0
    have hz := append_zero (room := room) (nm := temp) (s := F.frame pl) (l := D.del temp l) (by rw [ha])
    rw [ha, D.find_del] at hz
    dsimp only at hz
    have hs : D.sync temp la = (0, D.put (full temp (F.frame pl)) (D.del temp l)) := by rw [hz]; exact sync_put
    refine .inl ⟨rfl, _, hs, ?_⟩
    rw [hs] at H
    exact H
  · rw [if_neg h0] at H
    have h2 := append_err (room := room) (nm := temp) (s := F.frame pl) (l := D.del temp l) (by rw [ha]; exact h0)
    rw [ha] at h2
    cases H
    exact .inr ⟨h0, rfl, rfl, h2⟩
set_option maxRecDepth 100000 in
set_option maxHeartbeats 2000000 in
theorem replace_l (nm pl : Tx) (e : Nat) (l2 : List D.F) (hA : C.At bs w p room l S) (hI : D.Inv room l) (hroom : room ≤ 100000000) (hnm : nm.length ≤ 14) (hg : F.good pl) (H : replaceD room nm pl l = (e, l2)) :
    Calls Try.prog 20 #[dP p, .string (B nm), .string (B pl)] w fun x w' => x = .returned (.int .i64 (e : Int)) ∧ (∃ S2, C.At bs w' p room l2 S2 ∧ D.Grow S w S2) ∧ D.But S w w' := by
  obtain ⟨x0, hx0⟩ := delete_is temp l
  obtain ⟨⟨e1, la⟩, hap⟩ : ∃ q, D.append room temp (F.frame pl) (D.del temp l) = q := ⟨_, rfl⟩
  have hcase := replaceD_of hap H
  have HI := Lib.hid hI
  have HI1 := Lib.hid (hI.del (n := temp))
  have HI2 := Lib.hid (show D.Inv room la by have := (hI.del (n := temp)).append (n := temp) (s := F.frame pl); rw [hap] at this; exact this)
  have HA := Lib.hid hA
  have HD := Lib.hid hx0
  have HAP := Lib.hid hap
  have HG := Lib.hid hg
  have HDD := Lib.hid (show D.delete temp (D.del temp l) = (6, D.del temp l) by unfold D.delete; rw [D.find_del])
  clear H hI hA hx0 hap hg
  generalize D.del temp l = l1 at *
  go_enter Try.func20, Try.ntmps20
  go_wp2_with fail
  refine (C.delete temp x0 l1 HA.out HI.out (by omega) (by simp [temp]) HD.out).mono ?_
  rintro x w1 ⟨rfl, ⟨S1, hA1, hg1⟩, hb1⟩
  have HA1 := Lib.hid hA1
  have HG1 := Lib.hid hg1
  have HB1 := Lib.hid hb1
  clear hA1 hg1 hb1
  go_wp2_with fail
  refine (extend_l C temp pl e1 la HA1.out HI1.out hroom (by simp [temp]) HG.out HAP.out).mono ?_
  rintro x w2 ⟨rfl, ⟨S2, hA2, hg2⟩, hb2⟩
  have HA2 := Lib.hid hA2
  have HG2 := Lib.hid (HG1.out.next hg2 HB1.out.size)
  have HB2 := Lib.hid (HB1.out.next hb2 HG1.out)
  clear hA2 hg2 hb2 HA1 HG1 HB1
  rcases hcase with ⟨rfl, l3, hsy, hrn⟩ | ⟨h0, rfl, rfl, rfl⟩
  · have HSY := Lib.hid hsy
    have HRN := Lib.hid hrn
    have HI3 := Lib.hid (show D.Inv room l3 by have := HI2.out.sync (n := temp); rw [hsy] at this; exact this)
    clear hsy hrn
    go_wp2_with fail
    refine (C.sync temp 0 l3 HA2.out HI2.out (by omega) (by simp [temp]) HSY.out).mono ?_
    rintro x w3 ⟨rfl, ⟨S3, hA3, hg3⟩, hb3⟩
    have HA3 := Lib.hid hA3
    have HG3 := Lib.hid (HG2.out.next hg3 HB2.out.size)
    have HB3 := Lib.hid (HB2.out.next hb3 HG2.out)
    clear hA3 hg3 hb3 HA2 HG2 HB2
    go_wp2_with fail
    refine (C.rename temp nm e l2 HA3.out HI3.out (by omega) (by simp [temp]) (by omega) HRN.out).mono ?_
    rintro x w4 ⟨rfl, ⟨S4, hA4, hg4⟩, hb4⟩
    have HR := Lib.hid (show (∃ S2, C.At bs w4 p room l2 S2 ∧ D.Grow S w S2) ∧ D.But S w w4 from ⟨⟨S4, hA4, HG3.out.next hg4 HB3.out.size⟩, HB3.out.next hb4 HG3.out⟩)
    clear hA4 hg4 hb4
    go_wp2
    go_ret
    exact ⟨rfl, HR.out⟩
  · have hei : ((e : Int) == 0) = false := beq_eq_false_iff_ne.2 (by omega)
    have hen : ¬ (e : Int) = 0 := by omega
    clear h0
    go_wp2_with fail
    refine (C.delete temp 6 _ HA2.out HI2.out (by omega) (by simp [temp]) HDD.out).mono ?_
    rintro x w3 ⟨rfl, ⟨S3, hA3, hg3⟩, hb3⟩
    have HR := Lib.hid (show (∃ S2, C.At bs w3 p room _ S2 ∧ D.Grow S w S2) ∧ D.But S w w3 from ⟨⟨S3, hA3, HG2.out.next hg3 HB2.out.size⟩, HB2.out.next hb3 HG2.out⟩)
    clear hA3 hg3 hb3
    go_wp2
    go_ret
    exact ⟨rfl, HR.out⟩
set_option maxRecDepth 100000 in
set_option maxHeartbeats 2000000 in
theorem Save_l (next : Int) (segs : List Int) (v : Value) (e : Nat) (l2 : List D.F) (hA : C.At bs w p room l S) (hI : D.Inv room l) (hroom : room ≤ 100000000) (hv : ∀ w', D.But S w w' → ReadsI w' v segs) (H : saveD room next segs l = (e, l2)) :
    Calls Try.prog 9 #[dP p, .agg #[.int .i64 next, v]] w fun x w' => x = .returned (.int .i64 (e : Int)) ∧ (∃ S2, C.At bs w' p room l2 S2 ∧ D.Grow S w S2) ∧ D.But S w w' := by
  obtain ⟨a, cap, rfl⟩ : ∃ a cap, v = .slice a segs.length cap := by obtain ⟨a, c, h, _⟩ := hv w (D.But.refl _ _); exact ⟨a, c, h⟩
  have HB := Lib.hid ((Below.refl w.heap.size w).alloc (Nat.le_refl _) (.cells #[.int .i64 next, .slice a segs.length cap] 33))
  have HC := Lib.hid (heap_alloc_new w (.cells #[.int .i64 next, .slice a segs.length cap] 33))
  have HA := Lib.hid (C.below hA HB.out)
  have HI := Lib.hid hI
  have HV := Lib.hid hv
  obtain ⟨g, hge⟩ : ∃ g, w.heap.size = g := ⟨_, rfl⟩
  rw [hge] at HC
  have HGE := Lib.hid hge
  clear hge hA hI hv
  cases hr : right next segs
  · have HE : Hid (e = 1 ∧ l2 = l) := Lib.hid (by unfold saveD at H; rw [hr, if_neg (by decide)] at H; cases H; exact ⟨rfl, rfl⟩)
    obtain ⟨rfl, rfl⟩ := HE.out
    have HR := Lib.hid hr
    clear hr H
    go_enter Try.func9, Try.ntmps9
    go_upto_region 1 with (fail)
    rw [HGE.out]
    generalize w.alloc (.cells #[.int .i64 next, .slice a segs.length cap] 33) = W at *
    have k0 := blkA HC.out 0
    have k1 := blkA HC.out 1
    simp only [List.getElem?_toArray, List.getElem?_cons_zero, List.getElem?_cons_succ] at k0 k1
    go_wp2_with (go_at_call 17; refine (Right_l next segs _ _ false (HV.out _ (D.But.of_below HB.out)) HR).mono ?_; rintro x w2 ⟨rfl, hb2⟩)
    go_ret
    exact ⟨rfl, ⟨S, C.below HA.out hb2, fun _ h => .inl h⟩, D.But.of_below (HB.out.trans (hb2.mono HB.out.size))⟩
  · have HE := Lib.hid (show replaceD room fileN (payload next segs) l = (e, l2) by unfold saveD at H; rw [hr, if_pos rfl] at H; exact H)
    have HR := Lib.hid hr
    have HPG := Lib.hid (payload_good hr).1
    obtain ⟨pl, hpl⟩ : ∃ pl, payload next segs = pl := ⟨_, rfl⟩
    rw [hpl] at HE HPG
    have HPL := Lib.hid hpl
    clear hr H hpl
    go_enter Try.func9, Try.ntmps9
    go_upto_region 1 with (fail)
    rw [HGE.out]
    generalize w.alloc (.cells #[.int .i64 next, .slice a segs.length cap] 33) = W at *
    have k0 := blkA HC.out 0
    have k1 := blkA HC.out 1
    simp only [List.getElem?_toArray, List.getElem?_cons_zero, List.getElem?_cons_succ] at k0 k1
    go_wp2_with (go_at_call 17; refine (Right_l next segs _ _ true (HV.out _ (D.But.of_below HB.out)) HR).mono ?_; rintro x w2 ⟨rfl, hb2⟩; have c0 := keepsA hb2 _ _ k0; have c1 := keepsA hb2 _ _ k1; have HB2 := Lib.hid (HB.out.trans (hb2.mono HB.out.size)); have HA2 := Lib.hid (C.below HA.out hb2))
    clear hb2 k0 k1 HA HB
    refine (payloadOf_l next segs _ w2 pl (HV.out _ (D.But.of_below HB2.out)) HR.out HPL).mono ?_
    rintro x w3 ⟨rfl, hb3⟩
    have HB3 := Lib.hid (HB2.out.trans (hb3.mono HB2.out.size))
    have HA3 := Lib.hid (C.below HA2.out hb3)
    clear hb3
    go_wp2_with fail
    refine (replace_l C fileN pl e l2 HA3.out HI.out hroom (by simp [fileN]) HPG.out HE.out).mono ?_
    rintro x w4 ⟨rfl, ⟨S4, hA4, hg4⟩, hb4⟩
    have HRR := Lib.hid (show (∃ S2, C.At bs w4 p room l2 S2 ∧ D.Grow S w S2) ∧ D.But S w w4 from ⟨⟨S4, hA4, hg4.wide HB3.out.size⟩, (D.But.of_below HB3.out).trans hb4⟩)
    clear hA4 hg4 hb4
    go_wp2
    go_ret
    exact ⟨rfl, HRR.out⟩
end
end Go.Proofs.Ytmfhipjceeijmaa.A
