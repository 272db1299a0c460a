/-
  Own texts, joined: ManRef1 ManRef2 ManRef3 ManRef4 ManRef5 ManPair ManGoes ManLPlays
-/
import Derived.Test.YtmfhipjceeijmaaGreatBun14
import Derived.Test.YtmfhipjceeijmaaGreatBun6
import Derived.Test.YtmfhipjceeijmaaGreatBun21
import Derived.Test.YtmfhipjceeijmaaGreatBun20
import Derived.Test.YtmfhipjceeijmaaGreatBun9
import Derived.BigQuiet
import Derived.Test.YtmfhipjceeijmaaGreatBun22
import Derived.Test.YtmfhipjceeijmaaGreatBun11

/-
  The document's answer to chapter 10: Right, bytes, write, Save.
-/
namespace Go.Proofs.YtmfhipjceeijmaaGreat.A
open Go.RowKit
open D (Tx ReadsI i64B readsI_below dP MAt)
attribute [local go_sem] ext_Bd ext_Bl ext_Bt toList_B add_B size_B get_Bt

theorem quietA {w w' : World} (h : sQuiet w w') : Below w.heap.size w w' := below_quiet (Below.refl _ w) h
theorem drewA {n : Nat} {a w : World} (h : Below n a w) (k : Nat) : Below n a (w.drewN k) := ⟨h.os, h.tape, h.output, h.size, h.block⟩
theorem mlo {bs p : Nat} {room : Int} {l : List D.F} {w : World} (h : MAt bs w p room l) : bs ≤ p := h.1
theorem data_leR {room : Nat} {l : List D.F} {f : D.F} (hI : D.Inv room l) (hf : f ∈ l) : f.data.length ≤ room := by
  have h2 := D.used_del (n := f.name) hI.sorted
  rw [D.find_mem hI.sorted hf] at h2
  have := hI.room
  simp only [D.lenAt] at h2
  omega
set_option maxHeartbeats 2000000 in
set_option maxRecDepth 100000 in
theorem rRight_l (next : Int) (segs : List Int) (v : Value) (w : World) (b : Bool) (hv : ReadsI w v segs) (hl : segs.length ≤ 1000000) (H : Hid (right next segs = b)) :
    Calls Tryz.prog 16 #[.agg #[.int .i64 next, v]] w fun x w' => x = .returned (.bool b) ∧ Below w.heap.size w w' := by
  obtain ⟨a, cap, rfl, hx⟩ := hv
  have HX := Lib.hid hx
  have HB := Lib.hid ((Below.refl w.heap.size w).alloc (Nat.le_refl _) (.cells #[.int .i64 next, .slice a segs.length cap] 41))
  have HC := Lib.hid (heap_alloc_new w (.cells #[.int .i64 next, .slice a segs.length cap] 41))
  clear hx
  obtain ⟨g, hge⟩ : ∃ g, w.heap.size = g := ⟨_, rfl⟩
  rw [hge] at HC
  have HGE := Lib.hid hge
  clear hge
  have HRR : Hid (∀ r, rises 0 next segs = r → b = (r && (decide (1 ≤ next ∧ next ≤ 1073741824) && decide (segs.length ≤ 30)))) := Lib.hid fun r hr => by
    rw [← H.out]
    unfold right
    rw [hr]
    cases r <;> cases decide (1 ≤ next ∧ next ≤ 1073741824) <;> cases decide (segs.length ≤ 30) <;> rfl
  clear H
  go_enter Tryz.func16, Tryz.ntmps16
  go_upto_region 2 with (fail)
  rw [HGE.out]
  generalize w.alloc (.cells #[.int .i64 next, .slice a segs.length cap] 41) = W at *
  have HWR := Lib.hid (Below.refl W.heap.size W)
  go_wp2
  go_loopw [4, 3] (fun i z wr => ∃ (k : Nat) (q : Int), i = .int .i64 k ∧ z = .int .i64 q ∧ k ≤ segs.length ∧ Hid (rises q next (segs.drop k) = rises 0 next segs) ∧ Hid (Below W.heap.size W wr)) (fun i _ _ => segs.length - (intOf i).toNat)
  case atStart => exact ⟨0, 0, rfl, rfl, Nat.zero_le _, Lib.hid rfl, HWR⟩
  case round =>
    obtain ⟨k, q, rfl, rfl, hk, HQ, HBW⟩ := hrel
    have HCW := Lib.hid ((HBW.out.block g (lt_of_block HC.out)).trans HC.out)
    have HBB := Lib.hid (HB.out.trans (HBW.out.mono HB.out.size))
    have k0 := blkA HCW.out 0
    have k1 := blkA HCW.out 1
    simp only [List.getElem?_toArray, List.getElem?_cons_zero, List.getElem?_cons_succ] at k0 k1
    by_cases hlt : k < segs.length
    · have hi1 : (k : Int) < (segs.length : Int) := by omega
      obtain ⟨-, bb, off, rfl, hc⟩ := HX.out k hlt
      have hcell : wr.cell? ⟨bb, off + k, none⟩ = some (.int .i64 segs[k]) := keepsA HBB.out _ _ hc
      have HS := Lib.hid (rises_at hlt q next)
      clear hc
      generalize segs[k] = y at *
      by_cases hy : q < y
      · have hd1 : decide (y ≤ q) = false := decide_eq_false (by omega)
        by_cases hy2 : y < next
        · have hd2 : decide (next ≤ y) = false := decide_eq_false (by omega)
          have HQ2 : Hid (rises y next (segs.drop (k + 1)) = rises 0 next segs) := Lib.hid (by
            have h1 := HQ.out
            rw [HS.out, decide_eq_true ⟨hy, hy2⟩, Bool.true_and] at h1
            exact h1)
          go_wp2
          go_quiet (fail)
          go_wp2
          go_roundw
          case rel => exact ⟨k + 1, y, by go_num, rfl, by omega, HQ2, Lib.hid (by first | exact HBW.out | exact drewA HBW.out _)⟩
          case measure => simp [intOf]; omega
        · have hd2 : next ≤ y := by omega
          have HE : Hid (b = false) := Lib.hid (HRR.out false (by rw [← HQ.out, HS.out, decide_eq_false fun h => hy2 h.2, Bool.false_and]))
          go_wp2
          go_quiet (fail)
          go_wp2
          go_ret
          rw [HE.out]
          exact ⟨rfl, by first | exact HBB.out | exact drewA HBB.out _⟩
      · have hd1 : y ≤ q := by omega
        have HE : Hid (b = false) := Lib.hid (HRR.out false (by rw [← HQ.out, HS.out, decide_eq_false fun h => hy h.1, Bool.false_and]))
        go_wp2
        go_quiet (fail)
        go_wp2
        go_ret
        rw [HE.out]
        exact ⟨rfl, by first | exact HBB.out | exact drewA HBB.out _⟩
    · have HE := Lib.hid (HRR.out true (by rw [← HQ.out, List.drop_eq_nil_of_le (by omega)]; rfl))
      by_cases h1 : 1 ≤ next
      · by_cases h2 : next ≤ 1073741824
        · by_cases h3 : segs.length ≤ 30
          · have h3i : (segs.length : Int) ≤ 30 := by omega
            have HEE : Hid (b = true) := Lib.hid (by rw [HE.out, decide_eq_true ⟨h1, h2⟩, decide_eq_true h3]; rfl)
            go_wp2
            go_ret
            rw [HEE.out]
            exact ⟨by first | rfl | simp [h3i], HBB.out⟩
          · have h3i : ¬ (segs.length : Int) ≤ 30 := by omega
            have HEE : Hid (b = false) := Lib.hid (by rw [HE.out, decide_eq_false h3]; simp)
            go_wp2
            go_ret
            rw [HEE.out]
            exact ⟨by first | rfl | (simp; omega), HBB.out⟩
        · have HEE : Hid (b = false) := Lib.hid (by rw [HE.out, decide_eq_false fun h => h2 h.2]; simp)
          go_wp2
          go_ret
          rw [HEE.out]
          exact ⟨by first | rfl | (simp; omega), HBB.out⟩
      · have HEE : Hid (b = false) := Lib.hid (by rw [HE.out, decide_eq_false fun h => h1 h.1]; simp)
        go_wp2
        go_ret
        rw [HEE.out]
        exact ⟨by first | rfl | (simp; omega), HBB.out⟩
theorem rPutN (n : Nat) (x : Tx) (w : World) (hn : n ≤ 1099511627776) (HX : Hid (N.putL n = x)) :
    Calls Tryz.prog 53 #[.int .i64 (n : Int)] w fun e w' => e = .returned (.string (B x)) ∧ Below w.heap.size w w' := by
  rw [← HX.out]; exact refPut_l n w hn
set_option maxHeartbeats 2000000 in
set_option maxRecDepth 100000 in
theorem rBytes_l (next : Int) (segs : List Int) (v : Value) (w : World) (f0 : Tx) (hv : ReadsI w v segs) (hr : right next segs = true) (H : Hid (F.frame (payload next segs) = f0)) :
    Calls Tryz.prog 50 #[.agg #[.int .i64 next, v]] w fun x w' => x = .returned (.string (B f0)) ∧ Below w.heap.size w w' := by
  have h1 := right_iff.1 hr
  have HRS := Lib.hid (right_segs hr)
  have HPG := Lib.hid (payload_good hr).1
  obtain ⟨x0, HX0⟩ : ∃ x0, Hid (payload next segs = x0) := ⟨_, Lib.hid rfl⟩
  rw [HX0.out] at HPG H
  obtain ⟨nn, rfl⟩ : ∃ nn : Nat, next = nn := ⟨next.toNat, by omega⟩
  have hnn : nn ≤ 1099511627776 := by omega
  have hsl : segs.length ≤ 30 := h1.2.1
  have hsl2 : segs.length ≤ 1099511627776 := by omega
  obtain ⟨y, HY⟩ : ∃ y, Hid (N.putL nn = y) := ⟨_, Lib.hid rfl⟩
  obtain ⟨z, HZ⟩ : ∃ z, Hid (N.putL segs.length = z) := ⟨_, Lib.hid rfl⟩
  have HP : Hid (x0 = (y ++ z) ++ putsI segs) := Lib.hid (by rw [← HX0.out, ← HY.out, ← HZ.out]; simp [payload])
  have hyl : y.length ≤ 6 := by rw [← HY.out]; exact N.putL_len6 hnn
  have hzl : z.length ≤ 6 := by rw [← HZ.out]; exact N.putL_len6 hsl2
  have hcat : ∀ w' : World, (Op.stringOp .add (B y) (B z)).run Tryz.prog w' = .ok (.string (B (y ++ z))) w' := fun w' => by
    rw [run_string_add_sum w' (B y) (B z) (by rw [size_B, size_B]; omega), add_B]
  clear h1 hr HX0
  obtain ⟨a, cap, rfl, hx⟩ := hv
  have HX := Lib.hid hx
  have HB := Lib.hid ((Below.refl w.heap.size w).alloc (Nat.le_refl _) (.cells #[.int .i64 (nn : Int), .slice a segs.length cap] 41))
  have HC := Lib.hid (heap_alloc_new w (.cells #[.int .i64 (nn : Int), .slice a segs.length cap] 41))
  clear hx
  obtain ⟨g, hge⟩ : ∃ g, w.heap.size = g := ⟨_, rfl⟩
  rw [hge] at HC
  have HGE := Lib.hid hge
  clear hge
  go_enter Tryz.func50, Tryz.ntmps50
  go_upto_region 1 with (fail)
  rw [HGE.out]
  generalize w.alloc (.cells #[.int .i64 (nn : Int), .slice a segs.length cap] 41) = W at *
  have k0 := blkA HC.out 0
  have k1 := blkA HC.out 1
  simp only [List.getElem?_toArray, List.getElem?_cons_zero, List.getElem?_cons_succ] at k0 k1
  have hS : P1 w g (.int .i64 (nn : Int)) (.slice a segs.length cap) W := ⟨k0, k1, HB.out⟩
  clear k0 k1
  unfold P1 at hS
  go_region_held3 (fun w' => w'.cell? ⟨g, 0, none⟩ = some (.int .i64 (nn : Int)) ∧ w'.cell? ⟨g, 1, none⟩ = some (.slice a segs.length cap) ∧ Below w.heap.size w w')
    (first | assumption | exact P1_drew (by assumption) | exact P1_call (by assumption) (by assumption))
    (first
      | (go_at_call 53; with_reducible refine (rPutN nn y _ hnn HY).mono ?_; rintro x w4 ⟨rfl, hb4⟩)
      | (go_at_call 53; with_reducible refine (rPutN segs.length z _ hsl2 HZ).mono ?_; rintro x w5 ⟨rfl, hb5⟩))
  rename_i hHeld
  have HP1 := Lib.hid hHeld
  clear hHeld hS hcat HC HB
  go_wp2
  go_loopw [4, 3] (fun i s wr => ∃ k : Nat, i = .int .i64 k ∧ s = .string (B ((y ++ z) ++ putsI (segs.take k))) ∧ k ≤ segs.length ∧ Hid (P1 w g (.int .i64 (nn : Int)) (.slice a segs.length cap) wr)) (fun i _ _ => segs.length - (intOf i).toNat)
  case atStart => exact ⟨0, rfl, by simp [putsI], Nat.zero_le _, HP1⟩
  case round =>
    obtain ⟨k, rfl, rfl, hk, HPW⟩ := hrel
    have k0 := HPW.out.1
    have k1 := HPW.out.2.1
    by_cases hlt : k < segs.length
    · have hi1 : (k : Int) < (segs.length : Int) := by omega
      obtain ⟨-, bb, off, rfl, hc⟩ := HX.out k hlt
      have hcell : wr.cell? ⟨bb, off + k, none⟩ = some (.int .i64 segs[k]) := keepsA HPW.out.2.2 _ _ hc
      have hq := HRS.out segs[k] (List.getElem_mem hlt)
      have HST := Lib.hid (putsI_step hlt)
      have hln := putsI_len (l := segs.take k) fun n hn => by have := HRS.out n (List.mem_of_mem_take hn); omega
      rw [List.length_take] at hln
      clear hc
      generalize putsI (segs.take k) = acc at *
      generalize segs[k] = q at *
      obtain ⟨qn, rfl⟩ : ∃ qn : Nat, q = qn := ⟨q.toNat, by omega⟩
      obtain ⟨u, HU⟩ : ∃ u, Hid (N.putL qn = u) := ⟨_, Lib.hid rfl⟩
      have hul : u.length ≤ 6 := by rw [← HU.out]; exact N.putL_len6 (by omega)
      have HS2 : Hid (putsI (segs.take (k + 1)) = acc ++ u) := Lib.hid (by rw [HST.out, ← HU.out, Int.toNat_natCast])
      clear HST
      have hxl : ((y ++ z) ++ acc).length ≤ 200 := by rw [List.length_append, List.length_append]; omega
      have HX3 : Hid ((y ++ z) ++ putsI (segs.take (k + 1)) = ((y ++ z) ++ acc) ++ u) := Lib.hid (by rw [HS2.out]; simp only [List.append_assoc])
      generalize (y ++ z) ++ acc = t0 at *
      go_wp2_with fail
      refine (rPutN qn u wr (by omega) HU).mono ?_
      rintro x w6 ⟨rfl, hb6⟩
      have HP6 := Lib.hid (P1_call HPW.out hb6)
      clear hb6
      go_wp2
      go_roundw
      case rel => exact ⟨k + 1, by go_num, by rw [HX3.out], by omega, HP6⟩
      case measure => simp [intOf]; omega
    · have HE : Hid ((y ++ z) ++ putsI (segs.take k) = x0) := Lib.hid (by rw [List.take_of_length_le (by omega), HP.out])
      have HF := Lib.hid (refFPut_ok x0 wr HPG.out)
      rw [H.out] at HF
      rw [HE.out]
      go_wp2_with fail
      refine HF.out.mono ?_
      rintro x w6 ⟨rfl, hb6⟩
      have HB6 := Lib.hid (HPW.out.2.2.trans (hb6.mono HPW.out.2.2.size))
      clear hb6
      go_wp2
      go_ret
      exact ⟨rfl, HB6.out⟩
end Go.Proofs.YtmfhipjceeijmaaGreat.A

/-
  The document's answer to chapter 10: write, Save, numbers.
-/
namespace Go.Proofs.YtmfhipjceeijmaaGreat.A
open Go.RowKit
open D (Tx ReadsI i64B readsI_below dP MAt)
attribute [local go_sem] ext_Bd ext_Bl ext_Bt toList_B add_B size_B get_Bt

set_option maxHeartbeats 2000000 in
set_option maxRecDepth 100000 in
theorem rWrite_l {bs p room : Nat} {l : List D.F} (nm pl s : Tx) (e : Nat) (l2 : List D.F) (w : World) (hm : MAt bs w p (room : Int) l) (hI : D.Inv room l) (hroom : room ≤ 100000000) (hnm : nm.length ≤ 14) (hs : Hid (F.frame pl = s)) (hsl : s.length ≤ 10000) (H : replaceD room nm pl l = (e, l2)) :
    Calls Tryz.prog 49 #[dP p, .string (B nm), .string (B s)] w fun x w' => x = .returned (.int .i64 (e : Int)) ∧ MAt bs w' p (room : Int) l2 ∧ D.Kp bs p w w' := by
  obtain ⟨x0, hx0⟩ := delete_is temp l
  obtain ⟨⟨e1, la⟩, hap⟩ : ∃ q, D.append room temp (F.frame pl) (D.del temp l) = q := ⟨_, rfl⟩
  have hcase := replaceD_of hap H
  have HI := Lib.hid hI
  have HI1 := Lib.hid (hI.del (n := temp))
  have HI2 := Lib.hid (show D.Inv room la by have := (hI.del (n := temp)).append (n := temp) (s := F.frame pl); rw [hap] at this; exact this)
  have HM := Lib.hid hm
  have hlo := mlo hm
  have HD := Lib.hid hx0
  rw [hs.out] at hap
  have HAP := Lib.hid hap
  have HDD := Lib.hid (show D.delete temp (D.del temp l) = (6, D.del temp l) by unfold D.delete; rw [D.find_del])
  clear H hI hm hx0 hap hs
  generalize D.del temp l = l1 at *
  go_enter Tryz.func49, Tryz.ntmps49
  go_wp2_with fail
  refine (D.mDelete_l p room l temp x0 l1 w HM.out HI.out.sorted HI.out.many HD).mono ?_
  rintro x w1 ⟨rfl, hm1, hk1, -⟩
  have HM1 := Lib.hid hm1
  have HK1 := Lib.hid (hk1.kp hlo)
  clear hm1 hk1
  go_wp2_with fail
  refine (D.mAppend_l p room l1 temp s e1 la w1 HM1.out HI1.out.sorted HI1.out.many (by simp [temp]) (by omega) (by have := HI1.out.room; omega) HAP).mono ?_
  rintro x w2 ⟨rfl, hm2, hk2⟩
  have HM2 := Lib.hid hm2
  have HK2 := Lib.hid (HK1.out.trans hk2)
  clear hm2 hk2 HM1 HK1
  rcases hcase with ⟨rfl, l3, hsy, hrn⟩ | ⟨h0, rfl, rfl, rfl⟩
  · have HSY := Lib.hid hsy
    have HRN := Lib.hid hrn
    have HI3 := Lib.hid (show D.Inv room l3 by have := HI2.out.sync (n := temp); rw [hsy] at this; exact this)
    clear hsy hrn
    go_wp2_with fail
    refine (D.mSync_l p room la temp 0 l3 w2 HM2.out HI2.out.sorted (by have := HI2.out.many; omega) (fun f hf => by have := data_leR HI2.out hf; omega) HSY).mono ?_
    rintro x w3 ⟨rfl, hm3, hk3⟩
    have HM3 := Lib.hid hm3
    have HK3 := Lib.hid (HK2.out.trans hk3)
    clear hm3 hk3 HM2 HK2
    go_wp2_with fail
    refine (D.mRename_l p room l3 temp nm e l2 w3 HM3.out HI3.out.sorted HI3.out.many (by omega) HRN).mono ?_
    rintro x w4 ⟨rfl, hm4, hk4⟩
    have HM4 := Lib.hid hm4
    have HK4 := Lib.hid (HK3.out.trans hk4)
    clear hm4 hk4
    go_wp2
    go_ret
    exact ⟨rfl, HM4.out, HK4.out⟩
  · have hei : ((e : Int) == 0) = false := beq_eq_false_iff_ne.2 (by omega)
    have hen : ¬ (e : Int) = 0 := by omega
    clear h0
    go_wp2_with fail
    refine (D.mDelete_l p room _ temp 6 _ w2 HM2.out HI2.out.sorted HI2.out.many HDD).mono ?_
    rintro x w3 ⟨rfl, hm3, hk3, -⟩
    have HM3 := Lib.hid hm3
    have HK3 := Lib.hid (HK2.out.trans (hk3.kp hlo))
    clear hm3 hk3
    go_wp2
    go_ret
    exact ⟨rfl, HM3.out, HK3.out⟩
set_option maxHeartbeats 2000000 in
set_option maxRecDepth 100000 in
theorem rSave_l {bs p room : Nat} {l : List D.F} (next : Int) (segs : List Int) (v : Value) (e : Nat) (l2 : List D.F) (w : World) (hm : MAt bs w p (room : Int) l) (hI : D.Inv room l) (hroom : room ≤ 100000000) (hv : ReadsI w v segs) (hl : segs.length ≤ 1000000) (H : saveD room next segs l = (e, l2)) :
    Calls Tryz.prog 21 #[dP p, .agg #[.int .i64 next, v]] w fun x w' => x = .returned (.int .i64 (e : Int)) ∧ MAt bs w' p (room : Int) l2 ∧ D.Kp bs p w w' := by
  obtain ⟨a, cap, rfl⟩ : ∃ a cap, v = .slice a segs.length cap := by obtain ⟨a, c, h, _⟩ := hv; exact ⟨a, c, h⟩
  have HB := Lib.hid ((Below.refl w.heap.size w).alloc (Nat.le_refl _) (.cells #[.int .i64 next, .slice a segs.length cap] 41))
  have HC := Lib.hid (heap_alloc_new w (.cells #[.int .i64 next, .slice a segs.length cap] 41))
  have HM := Lib.hid (hm.below HB.out)
  have HI := Lib.hid hI
  have HV := Lib.hid (readsI_below hv HB.out)
  obtain ⟨g, hge⟩ : ∃ g, w.heap.size = g := ⟨_, rfl⟩
  rw [hge] at HC
  have HGE := Lib.hid hge
  clear hge hm hI hv
  obtain ⟨b, hb⟩ : ∃ b, right next segs = b := ⟨_, rfl⟩
  have HR := Lib.hid hb
  go_enter Tryz.func21, Tryz.ntmps21
  go_upto_region 1 with (fail)
  rw [HGE.out]
  generalize w.alloc (.cells #[.int .i64 next, .slice a segs.length cap] 41) = W at *
  have k0 := blkA HC.out 0
  have k1 := blkA HC.out 1
  simp only [List.getElem?_toArray, List.getElem?_cons_zero, List.getElem?_cons_succ] at k0 k1
  go_wp2_with fail
  refine (rRight_l next segs _ W b HV.out hl HR).mono ?_
  rintro x w2 ⟨rfl, hb2⟩
  have c0 := keepsA hb2 _ _ k0
  have c1 := keepsA hb2 _ _ k1
  have HB2 := Lib.hid (HB.out.trans (hb2.mono HB.out.size))
  have HM2 := Lib.hid (HM.out.below hb2)
  have HV2 := Lib.hid (readsI_below HV.out hb2)
  clear hb2 k0 k1 HM HB HV
  cases b
  · have HE : Hid (e = 1 ∧ l2 = l) := Lib.hid (by unfold saveD at H; rw [hb, if_neg (by decide)] at H; cases H; exact ⟨rfl, rfl⟩)
    obtain ⟨rfl, rfl⟩ := HE.out
    clear H hb HE
    go_wp2
    go_ret
    exact ⟨rfl, HM2.out, D.Kp.of_below HB2.out⟩
  · have HE := Lib.hid (show replaceD room fileN (payload next segs) l = (e, l2) by unfold saveD at H; rw [hb, if_pos rfl] at H; exact H)
    obtain ⟨f0, hf0⟩ : ∃ f0, F.frame (payload next segs) = f0 := ⟨_, rfl⟩
    have hfl : f0.length ≤ 10000 := by rw [← hf0, F.frame_len]; have := (payload_good hb).2; omega
    have HF := Lib.hid hf0
    clear H hb hf0
    go_wp2_with fail
    refine (rBytes_l next segs _ w2 f0 HV2.out HR.out HF).mono ?_
    rintro x w3 ⟨rfl, hb3⟩
    have HB3 := Lib.hid (HB2.out.trans (hb3.mono HB2.out.size))
    have HM3 := Lib.hid (HM2.out.below hb3)
    clear hb3
    go_wp2_with fail
    refine (rWrite_l fileN (payload next segs) f0 e l2 w3 HM3.out HI.out hroom (by simp [fileN]) HF hfl HE.out).mono ?_
    rintro x w4 ⟨rfl, hm4, hk4⟩
    have HM4 := Lib.hid hm4
    have HK4 := Lib.hid ((D.Kp.of_below (bs := bs) (p := p) HB3.out).trans hk4)
    clear hm4 hk4
    go_wp2
    go_ret
    exact ⟨rfl, HM4.out, HK4.out⟩
structure NuAt (s : Tx) (w : World) (v : Value) (wr : World) (pre : List Nat) (rest : Tx) : Prop where
  own : wr.ownsRow w.heap.size 3 1 v pre.length (intCells pre)
  bel : Below w.heap.size w wr
  num : nums s = (nums rest).map (pre ++ ·)
  len : pre.length + rest.length ≤ s.length
theorem NuAt.start (s : Tx) (w : World) : NuAt s w (.slice none 0 0) w [] s := ⟨World.ownsRow_nil _ _ _ _, Below.refl _ _, by cases nums s <;> simp, by simp⟩
set_option maxHeartbeats 2000000 in
set_option maxRecDepth 100000 in
theorem rNumbers_l (s : Tx) (w : World) (hs : s.length ≤ 1000000) :
    Calls Tryz.prog 41 #[.string (B s)] w fun x w' => (∃ v b, x = .returned (.tuple #[v, .bool b]) ∧ ((∃ xs, nums s = some xs ∧ b = true ∧ w'.ownsRow w.heap.size 3 1 v xs.length (intCells xs)) ∨ (nums s = none ∧ b = false ∧ v = .slice none 0 0))) ∧ Below w.heap.size w w' := by
  obtain ⟨i0, hi, hz0, hz1, hz2⟩ := info_parts Tryz.infoIntA
  go_enter Tryz.func41, Tryz.ntmps41
  go_wp2
  go_loopw [0, 4] (fun t v wr => ∃ (pre : List Nat) (rest : Tx), t = .string (B rest) ∧ NuAt s w v wr pre rest) (fun t _ _ => strLen t)
  case atStart => exact ⟨[], s, rfl, NuAt.start s w⟩
  case round =>
    obtain ⟨pre, rest, rfl, hrel⟩ := hrel
    have HREL := Lib.hid hrel
    have hown := hrel.own
    have hbel := hrel.bel
    have hlen := hrel.len
    clear hrel
    cases rest with
    | nil =>
      have he : (([] : Tx) == []) = true := rfl
      have hne : (([] : Tx) != []) = false := rfl
      have HN : Hid (nums s = some pre) := Lib.hid (by rw [HREL.out.num, nums_nil]; simp)
      go_wp2
      go_ret2
      exact ⟨⟨_, true, rfl, .inl ⟨pre, HN.out, rfl, hown⟩⟩, hbel⟩
    | cons c rest =>
      have he : ((c :: rest : Tx) == []) = false := rfl
      have hne : ((c :: rest : Tx) != []) = true := rfl
      rcases N.takeL_cases (c :: rest) with ⟨e, ht⟩ | ⟨n, r, ht⟩
      · have HN : Hid (nums s = none) := Lib.hid (by rw [HREL.out.num, nums_bad (by simp) ht]; rfl)
        have hpos := K.num_errs _ e ht
        have hei : ((e : Int) == 0) = false := beq_eq_false_iff_ne.2 (by omega)
        have hen : ¬ (e : Int) = 0 := by omega
        have HT := Lib.hid ht
        clear ht HREL
        generalize (c :: rest : Tx) = q at *
        go_wp2_with fail
        refine (refTake_l q wr (by omega)).mono ?_
        rintro x w1 ⟨rfl, hq⟩
        rw [HT.out, show tkRes (Sum.inr e) = _ from tkRes_bad e]
        have HB1 := Lib.hid (hbel.trans ((quietA hq).mono hbel.size))
        clear hq hown hbel
        go_wp2
        go_ret2
        exact ⟨⟨_, false, rfl, .inr ⟨HN.out, rfl, rfl⟩⟩, HB1.out⟩
      · have hlt := take_less ht
        have HN : Hid (nums s = (nums r).map ((pre ++ [n]) ++ ·)) := Lib.hid (by
          rw [HREL.out.num, nums_ok ht]
          cases nums r with
          | none => rfl
          | some l => simp)
        have hln : r.length < rest.length + 1 := by simpa using hlt
        have HT := Lib.hid ht
        clear ht HREL hlt
        have hql : (c :: rest : Tx).length = rest.length + 1 := rfl
        generalize (c :: rest : Tx) = q at *
        go_wp2_with fail
        refine (refTake_l q wr (by omega)).mono ?_
        rintro x w1 ⟨rfl, hq⟩
        rw [HT.out, show tkRes (Sum.inl (n, r)) = _ from tkRes_ok n r]
        have ho1 := own_below hown (quietA hq)
        have hbb := hbel.trans ((quietA hq).mono hbel.size)
        have hsz := hbb.size
        clear hown hbel hq
        go_wp2_with (at_builtin; refine wpList_append_own _ rfl _ _ 33 rfl w.heap.size 3 i0 (.int .i64 0) 1 8 Tryz.underlying33 hi hz0 hz1 hz2 rfl (by decide) _ _ _ rfl (ho1.alloc _) ⟨w1.heap.size, 0, none⟩ 1 1 [.int .i64 (n : Int)] rfl rfl (cell_one_new _ _ _) (by intro u hu; simp at hu; subst hu; rfl) (by unfold maxLen; omega) (by omega) (by simp; omega) ?_; intro v' w2 hown' hgrow _)
        have HR2 : Hid (NuAt s w v' w2 (pre ++ [n]) r) := Lib.hid ⟨by
          have e1 : intCells (pre ++ [n]) = intCells pre ++ [.int .i64 (n : Int)] := by simp [intCells]
          rw [List.length_append, e1]; exact hown', below_grown hbb hsz ho1 hgrow, HN.out, by rw [List.length_append]; simp only [List.length_cons, List.length_nil]; omega⟩
        clear hown' hgrow
        go_wp2
        go_roundw
        case rel => exact ⟨_, r, rfl, HR2.out⟩
        case measure => simp [strLen, size_B]; omega
end Go.Proofs.YtmfhipjceeijmaaGreat.A

/-
  The document's answer to chapter 10: Load.
-/
namespace Go.Proofs.YtmfhipjceeijmaaGreat.A
open Go.RowKit
open D (Tx ReadsI i64B readsI_below dP MAt)
attribute [local go_sem] ext_Bd ext_Bl ext_Bt toList_B add_B size_B get_Bt

theorem nil_readsR (w : World) : ReadsI w (.slice none 0 0) (castL []) := ⟨none, 0, rfl, fun i hi => by simp [castL] at hi⟩
theorem nums_len : ∀ (f : Nat) (s : Tx) (xs : List Nat), numsF f s = some xs → xs.length ≤ s.length
  | f, [], xs, h => by
    have : numsF f [] = some [] := by unfold numsF; rfl
    rw [this] at h
    cases h
    simp
  | 0, _ :: _, xs, h => by unfold numsF at h; cases h
  | f + 1, c :: s, xs, h => by
    unfold numsF at h
    rcases N.takeL_cases (c :: s) with ⟨e, ht⟩ | ⟨m, r, ht⟩
    · rw [ht] at h; cases h
    · rw [ht] at h
      simp only at h
      have h2 := take_less ht
      cases hq : numsF f r with
      | none => rw [hq] at h; cases h
      | some l =>
        rw [hq] at h
        cases h
        have := nums_len f r l hq
        simp only [List.length_cons] at h2 ⊢
        omega
/-- A row without its first two. -/
theorem tail_reads {w : World} {b off c2 : Nat} {a c : Nat} {xs : List Nat} {A : Option Addr} (hb : ∀ n ∈ xs, n ≤ 1099511627776) (hx : ∀ i, i < (a :: c :: xs).length → w.cell? ⟨b, off + i, none⟩ = (intCells (a :: c :: xs))[i]?) (hA : 0 < xs.length → A = some ⟨b, off + 2, none⟩) : ReadsI w (.slice A xs.length c2) (castL xs) := by
  refine ⟨A, c2, by rw [castL_len], fun i hi => ?_⟩
  rw [castL_len] at hi
  have e : (castL xs)[i]'(by rw [castL_len]; exact hi) = (xs[i] : Int) := by simp [castL]
  have := hb xs[i] (List.getElem_mem hi)
  rw [e]
  refine ⟨⟨by omega, by omega⟩, b, off + 2, hA (by omega), ?_⟩
  rw [show off + 2 + i = off + (i + 2) by omega, hx (i + 2) (by simp only [List.length_cons]; omega)]
  simp [intCells, List.getElem?_eq_getElem hi]
theorem loadN_of {p : Tx} {e n : Nat} {segs : List Nat} (H : loadR (loadP p) = (e, n, segs)) :
    (nums p = none ∧ e = 2 ∧ n = 0 ∧ segs = []) ∨ (∃ xs, nums p = some xs ∧ xs.length < 2 ∧ e = 2 ∧ n = 0 ∧ segs = []) ∨ (∃ a c xs, nums p = some (a :: c :: xs) ∧ ((c ≠ xs.length ∧ e = 2 ∧ n = 0 ∧ segs = []) ∨ (c = xs.length ∧ right (a : Int) (castL xs) = false ∧ e = 2 ∧ n = 0 ∧ segs = []) ∨ (c = xs.length ∧ right (a : Int) (castL xs) = true ∧ e = 0 ∧ n = a ∧ segs = xs))) := by
  rw [← loadN_eq] at H
  unfold loadN at H
  cases hn : nums p with
  | none => rw [hn] at H; cases H; exact .inl ⟨rfl, rfl, rfl, rfl⟩
  | some l =>
    match l with
    | [] => rw [hn] at H; cases H; exact .inr (.inl ⟨_, rfl, by simp, rfl, rfl, rfl⟩)
    | [x] => rw [hn] at H; cases H; exact .inr (.inl ⟨_, rfl, by simp, rfl, rfl, rfl⟩)
    | a :: c :: xs =>
      rw [hn] at H
      dsimp only at H
      refine .inr (.inr ⟨a, c, xs, rfl, ?_⟩)
      by_cases hc : c = xs.length
      · cases hr : right (a : Int) (castL xs) with
        | true =>
          rw [if_pos ⟨hc, hr⟩] at H
          cases H
          exact .inr (.inr ⟨hc, rfl, rfl, rfl, rfl⟩)
        | false =>
          rw [if_neg fun h => by rw [hr] at h; exact absurd h.2 (by decide)] at H
          cases H
          exact .inr (.inl ⟨hc, rfl, rfl, rfl, rfl⟩)
      · rw [if_neg fun h => hc h.1] at H
        cases H
        exact .inl ⟨hc, rfl, rfl, rfl⟩
/-- What every way out of Load needs of the result's block. -/
structure RbAt (w0 : World) (rb : Nat) (w : World) : Prop where
  blk : w.heap[rb]? = some (.cells #[.int .i64 0, .slice none 0 0] 41 (0, 0))
  bel : Below w0.heap.size w0 w
  lo : w0.heap.size ≤ rb
theorem RbAt.below {w0 w w' : World} {rb : Nat} (h : RbAt w0 rb w) (hb : Below w.heap.size w w') : RbAt w0 rb w' := ⟨(hb.block rb (lt_of_block h.blk)).trans h.blk, h.bel.trans (hb.mono h.bel.size), h.lo⟩
theorem RbAt.fin {w0 w : World} {rb : Nat} (h : RbAt w0 rb w) (x y : Value) : Below w0.heap.size w0 ((w.setCell ⟨rb, 0, none⟩ x).setCell ⟨rb, 1, none⟩ y) := belowA h.bel h.lo x y
theorem reads_set {w : World} {v : Value} {zs : List Int} {rb : Nat} (h : ReadsI w v zs) (hne : ∀ (b off : Nat), (∃ n c, v = .slice (some ⟨b, off, none⟩) n c) → 0 < zs.length → b ≠ rb) (x y : Value) : ReadsI ((w.setCell ⟨rb, 0, none⟩ x).setCell ⟨rb, 1, none⟩ y) v zs := by
  obtain ⟨a, cap, hv, hx⟩ := h
  refine ⟨a, cap, hv, fun i hi => ?_⟩
  obtain ⟨h1, b, off, h2, h3⟩ := hx i hi
  refine ⟨h1, b, off, h2, ?_⟩
  have hbn := hne b off ⟨_, _, by rw [hv, h2]⟩ (by omega)
  rw [World.cell?_of_block (w := w) (a := ⟨b, off + i, none⟩) (by rw [Below.heap_setCell _ _ _ _ (by show b ≠ rb; exact hbn), Below.heap_setCell _ _ _ _ (by show b ≠ rb; exact hbn)])]
  exact h3
set_option maxRecDepth 100000 in
set_option maxHeartbeats 4000000 in
theorem rLoad_l {bs p room : Nat} {l : List D.F} (e n : Nat) (segs : List Nat) (w : World) (hm : MAt bs w p (room : Int) l) (hI : D.Inv room l) (hroom : room ≤ 1000000) (H : loadD l = (e, n, segs)) :
    Calls Tryz.prog 11 #[dP p] w fun x w' => (∃ v, x = .returned (.tuple #[.agg #[.int .i64 (n : Int), v], .int .i64 (e : Int)]) ∧ ReadsI w' v (castL segs)) ∧ Below w.heap.size w w' := by
  have hB := (Below.refl w.heap.size w).alloc (Nat.le_refl _) (.cells #[.int .i64 0, .slice none 0 0] 41)
  have HM := Lib.hid (hm.below hB)
  have HI := Lib.hid hI
  have h40 := hI.many
  have HR0 : Hid (RbAt w w.heap.size (w.alloc (.cells #[.int .i64 0, .slice none 0 0] 41))) := Lib.hid ⟨heap_alloc_new w _, hB, Nat.le_refl _⟩
  obtain ⟨rb, hrb⟩ : ∃ rb, w.heap.size = rb := ⟨_, rfl⟩
  rw [hrb] at HR0
  have HRB := Lib.hid hrb
  have hcase := loadD_of H
  clear hrb hm hI H hB
  rcases hcase with ⟨hrd, rfl, rfl, rfl⟩ | ⟨s, hrd, ⟨f, hfm, hfs⟩, hcase⟩
  · have HRD := Lib.hid hrd
    clear hrd
    go_enter Tryz.func11, Tryz.ntmps11
    go_wp2_with fail
    rw [HRB.out]
    generalize w.alloc (.cells #[.int .i64 0, .slice none 0 0] 41) = W at *
    refine (D.mRead_l p room l fileN [] 6 W HM.out HI.out.sorted (by omega) HRD).mono ?_
    rintro x w1 ⟨rfl, hq⟩
    have HR1 := Lib.hid (HR0.out.below (quietA hq))
    clear hq HR0
    have r0 := blkA HR1.out.blk 0
    have r1 := blkA HR1.out.blk 1
    simp only [List.getElem?_toArray, List.getElem?_cons_zero, List.getElem?_cons_succ] at r0 r1
    have f0 := frzA HR1.out.blk 0
    have f1 := frzA (setA HR1.out.blk 0 (.int .i64 1)) 1
    go_wp2
    obtain ⟨e0, e1⟩ := twoA HR1.out.blk (.int .i64 1) (.slice none 0 0)
    exact bodyPost_ret (v := .tuple #[.agg #[.int .i64 1, .slice none 0 0], .int .i64 0]) (by simp [results, Tryz.results11, go_sem, e0, e1]) rfl ⟨⟨_, rfl, nil_readsR _⟩, HR1.out.fin _ _⟩
  · have HRD := Lib.hid hrd
    have hsl : s.length ≤ 1000000 := by rw [← hfs]; have := data_leR HI.out hfm; omega
    clear hrd hfm hfs
    go_enter Tryz.func11, Tryz.ntmps11
    go_wp2_with fail
    rw [HRB.out]
    generalize w.alloc (.cells #[.int .i64 0, .slice none 0 0] 41) = W at *
    refine (D.mRead_l p room l fileN s 0 W HM.out HI.out.sorted (by omega) HRD).mono ?_
    rintro x w1 ⟨rfl, hq⟩
    have HR1 := Lib.hid (HR0.out.below (quietA hq))
    clear hq HR0 HM
    rcases hcase with ⟨e1, hs, he, rfl, rfl, rfl⟩ | ⟨pl, r, hs, hr, rfl, rfl, rfl⟩ | ⟨pl, hs, hm⟩
    · have hei : ((e1 : Int) == 0) = false := beq_eq_false_iff_ne.2 (by omega)
      have hen : ¬ (e1 : Int) = 0 := by omega
      have HT := Lib.hid (show ftRes (F.take s) = .tuple #[.string (B []), .string (B []), .int .i64 (e1 : Int)] by rw [hs, show ftRes (.bad e1) = _ from ftRes_bad e1])
      clear hs he
      go_wp2_with fail
      refine (refFTake_at s _ w1 (by omega) HT).mono ?_
      rintro x w2 ⟨rfl, hb2⟩
      have HR2 := Lib.hid (HR1.out.below hb2)
      clear hb2 HR1
      go_wp2_with fail
      refine (rNumbers_l [] w2 (by simp)).mono ?_
      rintro x w3 ⟨⟨v, b, rfl, -⟩, hb3⟩
      have HR3 := Lib.hid (HR2.out.below hb3)
      clear hb3 HR2
      have r0 := blkA HR3.out.blk 0
      have r1 := blkA HR3.out.blk 1
      simp only [List.getElem?_toArray, List.getElem?_cons_zero, List.getElem?_cons_succ] at r0 r1
      have f0 := frzA HR3.out.blk 0
      have f1 := frzA (setA HR3.out.blk 0 (.int .i64 0)) 1
      go_wp2
      obtain ⟨e0, e2⟩ := twoA HR3.out.blk (.int .i64 0) (.slice none 0 0)
      exact bodyPost_ret (v := .tuple #[.agg #[.int .i64 0, .slice none 0 0], .int .i64 2]) (by simp [results, Tryz.results11, go_sem, e0, e2]) rfl ⟨⟨_, rfl, nil_readsR _⟩, HR3.out.fin _ _⟩
    · have HT := Lib.hid (show ftRes (F.take s) = .tuple #[.string (B pl), .string (B r), .int .i64 0] by rw [hs, show ftRes (.ok pl r) = _ from ftRes_ok pl r])
      have hrb : (r == ([] : Tx)) = false := by cases r with | nil => exact absurd rfl hr | cons a b => rfl
      have hrn : (r != ([] : Tx)) = true := by cases r with | nil => exact absurd rfl hr | cons a b => rfl
      have hpl : pl.length ≤ 1000000 := by have := (F.take_inv hs).2.2; omega
      clear hs
      go_wp2_with fail
      refine (refFTake_at s _ w1 (by omega) HT).mono ?_
      rintro x w2 ⟨rfl, hb2⟩
      have HR2 := Lib.hid (HR1.out.below hb2)
      clear hb2 HR1
      go_wp2_with fail
      refine (rNumbers_l pl w2 hpl).mono ?_
      rintro x w3 ⟨⟨v, b, rfl, -⟩, hb3⟩
      have HR3 := Lib.hid (HR2.out.below hb3)
      clear hb3 HR2
      have r0 := blkA HR3.out.blk 0
      have r1 := blkA HR3.out.blk 1
      simp only [List.getElem?_toArray, List.getElem?_cons_zero, List.getElem?_cons_succ] at r0 r1
      have f0 := frzA HR3.out.blk 0
      have f1 := frzA (setA HR3.out.blk 0 (.int .i64 0)) 1
      go_wp2
      obtain ⟨e0, e2⟩ := twoA HR3.out.blk (.int .i64 0) (.slice none 0 0)
      exact bodyPost_ret (v := .tuple #[.agg #[.int .i64 0, .slice none 0 0], .int .i64 2]) (by simp [results, Tryz.results11, go_sem, e0, e2]) rfl ⟨⟨_, rfl, nil_readsR _⟩, HR3.out.fin _ _⟩
    · have HT := Lib.hid (show ftRes (F.take s) = .tuple #[.string (B pl), .string (B []), .int .i64 0] by rw [hs, show ftRes (.ok pl []) = _ from ftRes_ok pl []])
      have hpl : pl.length ≤ 1000000 := by have := (F.take_inv hs).2.2; omega
      have hcs := loadN_of hm
      clear hs hm
      go_wp2_with fail
      refine (refFTake_at s _ w1 (by omega) HT).mono ?_
      rintro x w2 ⟨rfl, hb2⟩
      have HR2 := Lib.hid (HR1.out.below hb2)
      clear hb2 HR1
      go_wp2_with fail
      refine (rNumbers_l pl w2 hpl).mono ?_
      rintro x w3 ⟨⟨v, b, rfl, hnum⟩, hb3⟩
      have HR3 := Lib.hid (HR2.out.below hb3)
      have hrl : rb < w2.heap.size := lt_of_block HR2.out.blk
      clear hb3 HR2
      have r0 := blkA HR3.out.blk 0
      have r1 := blkA HR3.out.blk 1
      simp only [List.getElem?_toArray, List.getElem?_cons_zero, List.getElem?_cons_succ] at r0 r1
      have f0 := frzA HR3.out.blk 0
      have f1 := frzA (setA HR3.out.blk 0 (.int .i64 0)) 1
      obtain ⟨e0, e2⟩ := twoA HR3.out.blk (.int .i64 0) (.slice none 0 0)
      have HE := Lib.hid (And.intro e0 e2)
      clear e0 e2
      rcases hcs with ⟨hn, rfl, rfl, rfl⟩ | ⟨xs, hn, hlx, rfl, rfl, rfl⟩ | ⟨a, c, xs, hn, hcs⟩
      · obtain ⟨-, rfl, rfl⟩ : nums pl = none ∧ b = false ∧ v = .slice none 0 0 := by
          rcases hnum with ⟨xs, h, -⟩ | h
          · rw [hn] at h; cases h
          · exact h
        clear hnum hn
        go_wp2
        obtain ⟨e0, e2⟩ := HE.out
        exact bodyPost_ret (v := .tuple #[.agg #[.int .i64 0, .slice none 0 0], .int .i64 2]) (by simp [results, Tryz.results11, go_sem, e0, e2]) rfl ⟨⟨_, rfl, nil_readsR _⟩, HR3.out.fin _ _⟩
      · obtain ⟨rfl, hown⟩ : b = true ∧ w3.ownsRow w2.heap.size 3 1 v xs.length (intCells xs) := by
          rcases hnum with ⟨ys, h, h2, h3⟩ | h
          · rw [hn] at h; cases h; exact ⟨h2, h3⟩
          · rw [hn] at h; cases h.1
        obtain ⟨va, vc, hvv, -⟩ := reads_own hown
        rw [intCells_len] at hvv
        subst hvv
        have hli : (xs.length : Int) < 2 := by omega
        clear hnum hn hown
        go_wp2
        obtain ⟨e0, e2⟩ := HE.out
        exact bodyPost_ret (v := .tuple #[.agg #[.int .i64 0, .slice none 0 0], .int .i64 2]) (by simp [results, Tryz.results11, go_sem, e0, e2]) rfl ⟨⟨_, rfl, nil_readsR _⟩, HR3.out.fin _ _⟩
      · obtain ⟨rfl, hown⟩ : b = true ∧ w3.ownsRow w2.heap.size 3 1 v (a :: c :: xs).length (intCells (a :: c :: xs)) := by
          rcases hnum with ⟨ys, h, h2, h3⟩ | h
          · rw [hn] at h; cases h; exact ⟨h2, h3⟩
          · rw [hn] at h; cases h.1
        have hbd : ∀ q ∈ xs, q ≤ 1099511627776 := fun q hq => nums_bound _ _ _ hn q (by simp [hq])
        have hxl : xs.length ≤ 1000000 := by
          have := nums_len _ _ _ hn
          simp only [List.length_cons] at this
          omega
        have hab : a ≤ 1099511627776 := nums_bound _ _ _ hn a (by simp)
        have hcb : c ≤ 1099511627776 := nums_bound _ _ _ hn c (by simp)
        rcases hown.2 with ⟨-, h0⟩ | ⟨bb, cap, cur, hvv, hbb, -, hcl, hcm, -, -⟩
        · simp at h0
        · subst hvv
          have hlt := hown.lt bb rfl
          have hx : ∀ i, i < (a :: c :: xs).length → w3.cell? ⟨bb, 0 + i, none⟩ = (intCells (a :: c :: xs))[i]? := fun i hi => by
            rw [Nat.zero_add]
            exact hown.cellAt i (by omega)
          have x0 := hx 0 (by simp)
          have x1 := hx 1 (by simp)
          simp only [intCells, List.map_cons, List.getElem?_cons_zero, List.getElem?_cons_succ, Nat.zero_add] at x0 x1
          have HX := Lib.hid hx
          have HBD := Lib.hid hbd
          obtain ⟨k, hk⟩ : ∃ k, (a :: c :: xs).length = k := ⟨_, rfl⟩
          have hkx : k = xs.length + 2 := by rw [← hk]; rfl
          rw [hk] at hcl
          have hk1 : (1 : Int) < (k : Int) := by omega
          have hk0 : (0 : Int) < (k : Int) := by omega
          have hk2 : (2 : Int) ≤ (k : Int) := by omega
          have hkn : ¬ (k : Int) < 2 := by omega
          have hkc : (k : Int) ≤ (cap : Int) := by omega
          have hkm : (cap : Int) ≤ 9223372036854775807 := by unfold maxLen at hcm; omega
          have HLT := Lib.hid hlt
          rw [hk]
          clear hnum hn hown hx hbd hk hlt hcm
          rcases hcs with ⟨hc, rfl, rfl, rfl⟩ | hcs
          · have hcb : ((c : Int) == (k : Int) - 2) = false := beq_eq_false_iff_ne.2 (by omega)
            have hcn : ¬ (c : Int) = (k : Int) - 2 := by omega
            have hcx : ((c : Int) != (k : Int) - 2) = true := by simp [hcn]
            clear hkx
            go_wp2
            obtain ⟨e0, e2⟩ := HE.out
            exact bodyPost_ret (v := .tuple #[.agg #[.int .i64 0, .slice none 0 0], .int .i64 2]) (by simp [results, Tryz.results11, go_sem, e0, e2]) rfl ⟨⟨_, rfl, nil_readsR _⟩, HR3.out.fin _ _⟩
          · have hc : c = xs.length := by rcases hcs with h | h <;> exact h.1
            have hcb : ((c : Int) == (k : Int) - 2) = true := beq_iff_eq.2 (by omega)
            have HKX := Lib.hid hkx
            have HRT : Hid ((right (a : Int) (castL xs) = false ∧ e = 2 ∧ n = 0 ∧ segs = []) ∨ (right (a : Int) (castL xs) = true ∧ e = 0 ∧ n = a ∧ segs = xs)) := Lib.hid (hcs.imp (fun h => h.2) fun h => h.2)
            have hcm2 : (c : Int) = (k : Int) - 2 := by omega
            have HCM := Lib.hid hcm2
            rw [hcm2] at x1
            clear hkx hcs hc hcm2
            go_upto_region 8 with (fail)
            have HB4 := Lib.hid ((Below.refl w3.heap.size w3).alloc (Nat.le_refl _) (.cells #[.int .i64 0, .slice none 0 0] 41))
            have y0 : (w3.alloc (.cells #[.int .i64 0, .slice none 0 0] 41)).cell? ⟨bb, 0, none⟩ = some (.int .i64 (a : Int)) := keepsA HB4.out _ _ x0
            have y0d : (w3.alloc (.cells #[.int .i64 0, .slice none 0 0] 41)).drew.cell? ⟨bb, 0, none⟩ = some (.int .i64 (a : Int)) := y0
            have x0d : w3.drew.cell? ⟨bb, 0, none⟩ = some (.int .i64 (a : Int)) := x0
            have hk0n : 0 < k := by omega
            have hk2n : 2 ≤ k := by omega
            have hkcn : k ≤ cap := by omega
            go_region
            all_goals
              have HK2 : Hid (k - 2 = xs.length) := Lib.hid (by have := HKX.out; omega)
              obtain ⟨A, hA⟩ : ∃ A, (if cap = 2 then (some ⟨bb, 0, none⟩ : Option Addr) else some ⟨bb, 2, none⟩) = A := ⟨_, rfl⟩
              rw [hA]
              have hal : Below w3.heap.size w3 (w3.alloc (.cells #[.int .i64 (a : Int), .slice A (k - 2) (cap - 2)] 41)).drew := ((Below.refl _ w3).alloc (Nat.le_refl _) _).drew
              have hnew : (w3.alloc (.cells #[.int .i64 (a : Int), .slice A (k - 2) (cap - 2)] 41)).drew.heap[w3.heap.size]? = some (.cells #[.int .i64 (a : Int), .slice A (k - 2) (cap - 2)] 41 (0, 0)) := heap_alloc_new w3 _
              have HRD5 : Hid (ReadsI (w3.alloc (.cells #[.int .i64 (a : Int), .slice A (k - 2) (cap - 2)] 41)).drew (.slice A xs.length (cap - 2)) (castL xs)) := Lib.hid (readsI_below (tail_reads (off := 0) HBD.out HX.out (fun h => by rw [← hA, if_neg (by have := HKX.out; omega)])) hal)
              have HA5 : Hid (0 < xs.length → A = some ⟨bb, 2, none⟩) := Lib.hid fun h => by rw [← hA, if_neg (by have := HKX.out; omega)]
              have HR5 := Lib.hid (HR3.out.below hal)
              rw [HK2.out] at hnew HRD5 HR5
              rw [HK2.out]
              have HN5 := Lib.hid hnew
              clear hal hnew hA x0 x1 y0 y0d x0d HB4 HX HBD HE r0 r1 f0 f1
              generalize (w3.alloc (.cells #[.int .i64 (a : Int), .slice A xs.length (cap - 2)] 41)).drew = w5 at *
              have hg5 : rb ≠ w3.heap.size := by have := lt_of_block HR3.out.blk; omega
              generalize w3.heap.size = g5 at *
              have d0 := blkA HN5.out 0
              have d1 := blkA HN5.out 1
              simp only [List.getElem?_toArray, List.getElem?_cons_zero, List.getElem?_cons_succ] at d0 d1
              rcases HRT.out with ⟨hr, rfl, rfl, rfl⟩ | ⟨hr, rfl, hnn, hss⟩
              · have HR := Lib.hid hr
                clear hr HRT
                go_wp2_with fail
                refine (rRight_l (a : Int) (castL xs) _ w5 false HRD5.out (by rw [castL_len]; exact hxl) HR).mono ?_
                rintro x w6 ⟨rfl, hb6⟩
                have HR6 := Lib.hid (HR5.out.below hb6)
                clear hb6 HR5
                have r0 := blkA HR6.out.blk 0
                have r1 := blkA HR6.out.blk 1
                simp only [List.getElem?_toArray, List.getElem?_cons_zero, List.getElem?_cons_succ] at r0 r1
                have f0 := frzA HR6.out.blk 0
                have f1 := frzA (setA HR6.out.blk 0 (.int .i64 0)) 1
                go_wp2
                obtain ⟨e0, e2⟩ := twoA HR6.out.blk (.int .i64 0) (.slice none 0 0)
                exact bodyPost_ret (v := .tuple #[.agg #[.int .i64 0, .slice none 0 0], .int .i64 2]) (by simp [results, Tryz.results11, go_sem, e0, e2]) rfl ⟨⟨_, rfl, nil_readsR _⟩, HR6.out.fin _ _⟩
              · have HR := Lib.hid hr
                obtain rfl := hnn.symm
                obtain rfl := hss.symm
                clear hr HRT
                go_wp2_with fail
                refine (rRight_l (a : Int) (castL xs) _ w5 true HRD5.out (by rw [castL_len]; exact hxl) HR).mono ?_
                rintro x w6 ⟨rfl, hb6⟩
                have HR6 := Lib.hid (HR5.out.below hb6)
                have HRD6 := Lib.hid (readsI_below HRD5.out hb6)
                have c0 := keepsA hb6 _ _ d0
                have c1 := keepsA hb6 _ _ d1
                clear hb6 HR5 HRD5 d0 d1
                have r0 := blkA HR6.out.blk 0
                have r1 := blkA HR6.out.blk 1
                simp only [List.getElem?_toArray, List.getElem?_cons_zero, List.getElem?_cons_succ] at r0 r1
                have f0 := frzA HR6.out.blk 0
                have f1 := frzA (setA HR6.out.blk 0 (.int .i64 (a : Int))) 1
                have HFR : Hid (ReadsI ((w6.setCell ⟨rb, 0, none⟩ (.int .i64 (a : Int))).setCell ⟨rb, 1, none⟩ (.slice A xs.length (cap - 2))) (.slice A xs.length (cap - 2)) (castL xs)) := Lib.hid (reads_set HRD6.out (fun b off h h0 => by
                  obtain ⟨n, c, h⟩ := h
                  rw [castL_len] at h0
                  rw [HA5.out h0] at h
                  cases h
                  have := HLT.out
                  omega) _ _)
                go_wp2
                obtain ⟨e0, e2⟩ := twoA HR6.out.blk (.int .i64 (a : Int)) (.slice A xs.length (cap - 2))
                exact bodyPost_ret (v := .tuple #[.agg #[.int .i64 (a : Int), .slice A xs.length (cap - 2)], .int .i64 0]) (by simp [results, Tryz.results11, go_sem, e0, e2]) rfl ⟨⟨_, rfl, HFR.out⟩, HR6.out.fin _ _⟩
end Go.Proofs.YtmfhipjceeijmaaGreat.A

/-
  The document's answer to chapter 10: epochs, Epoch, Raise.
-/
namespace Go.Proofs.YtmfhipjceeijmaaGreat.A
open Go.RowKit
open D (Tx ReadsI i64B readsI_below dP MAt)
attribute [local go_sem] ext_Bd ext_Bl ext_Bt toList_B add_B size_B get_Bt

theorem epsF_at {l : List Tx} {i : Nat} (h : i < l.length) (a : Nat) : epsF a (l.drop i) = (match epochOf l[i] with | some e => if a < e then (e :: (epsF e (l.drop (i + 1))).1, 8 + l[i].length + (epsF e (l.drop (i + 1))).2) else ([], 0) | none => ([], 0)) := by
  rw [List.drop_eq_getElem_cons h]
  rfl
/-- What a round of epochs finds of a payload. -/
theorem epoch_take (p : Tx) (a : Nat) : (∃ e, N.takeL p = .bad e ∧ 0 < e ∧ epochOf p = none) ∨ (∃ n r, N.takeL p = .ok n r ∧ ((r ≠ [] ∧ epochOf p = none) ∨ (r = [] ∧ n ≤ a ∧ ∀ e, epochOf p = some e → ¬ a < e) ∨ (r = [] ∧ a < n ∧ far < n ∧ epochOf p = none) ∨ (r = [] ∧ a < n ∧ n ≤ far ∧ epochOf p = some n))) := by
  rcases N.takeL_cases p with ⟨e, ht⟩ | ⟨n, r, ht⟩
  · refine .inl ⟨e, ht, K.num_errs p e ht, ?_⟩
    unfold epochOf
    rw [ht]
  · refine .inr ⟨n, r, ht, ?_⟩
    unfold epochOf
    rw [ht]
    cases r with
    | cons c r => exact .inl ⟨by simp, rfl⟩
    | nil =>
      right
      simp only
      by_cases h1 : n ≤ a
      · refine .inl ⟨by trivial, h1, fun e he => ?_⟩
        split at he
        · cases he; omega
        · cases he
      · by_cases h2 : far < n
        · exact .inr (.inl ⟨by trivial, by omega, h2, by rw [if_neg (by omega)]⟩)
        · exact .inr (.inr ⟨by trivial, by omega, by omega, by rw [if_pos (by omega)]⟩)
structure EsAt (ps : List Tx) (w : World) (gi : Nat) (j a : Nat) (v : Value) (pre : List Nat) (size : Nat) (wr : World) : Prop where
  own : wr.ownsRow gi 3 1 v pre.length (intCells pre)
  bel : Below gi w wr
  len : pre.length ≤ j
  eps : epsF 0 ps = (pre ++ (epsF a (ps.drop j)).1, size + (epsF a (ps.drop j)).2)
  siz : size ≤ j * 9000
theorem payload_le {s q : Tx} (h : q ∈ (F.scan s).1) : q.length ≤ 8000 := by
  have : ∀ (f : Nat) (s : Tx), ∀ q ∈ (F.scanF f s).1, q.length ≤ 8000 := fun f => by
    induction f with
    | zero => intro s q hq; simp [F.scanF] at hq
    | succ f ih =>
      intro s q hq
      rcases F.take_cases s with ⟨e, h, _⟩ | ⟨p, r, h⟩
      · rw [F.scanF_bad h] at hq; cases hq
      · rw [F.scanF_ok h] at hq
        rcases List.mem_cons.1 hq with rfl | hq
        · exact (F.take_inv h).2.2
        · exact ih r q hq
  exact this _ _ q h
theorem grown_base {n : Nat} {w0 w w1 : World} {base : Nat} {e : TypeId} {v : Value} {m : Nat} {xs : List Value} (hb : Below n w0 w) (h : w.ownsRow base e 1 v m xs) (hn : n ≤ base) (hw : n ≤ w.heap.size) (hg : w.grownBy w1 v.ownBlock) : Below n w0 w1 :=
  ⟨hg.os.trans hb.os, hg.tape.trans hb.tape, hg.output.trans hb.output, Nat.le_trans hb.size hg.size, fun k hk => (hg.block k (by omega) fun e => by have := (h.lt k e.symm).1; omega).trans (hb.block k hk)⟩
set_option maxRecDepth 100000 in
set_option maxHeartbeats 4000000 in
theorem rEpochs_l {bs p room : Nat} {l : List D.F} (s : Tx) (out : List Nat) (size : Nat) (w : World) (hm : MAt bs w p (room : Int) l) (hI : D.Inv room l) (hroom : room ≤ 100000) (hs : (D.read markN l).1 = s) (H : epsF 0 (F.scan s).1 = (out, size)) :
    Calls Tryz.prog 43 #[dP p] w fun x w' => (∃ v, x = .returned (.tuple #[v, .int .i64 (size : Int)]) ∧ w'.ownsRow w.heap.size 3 1 v out.length (intCells out)) ∧ Below w.heap.size w w' := by
  obtain ⟨i0, hi, hz0, hz1, hz2⟩ := info_parts Tryz.infoIntA
  have HM := Lib.hid hm
  have HI := Lib.hid hI
  have h40 := hI.many
  obtain ⟨er, hrd⟩ : ∃ er, D.read markN l = (s, er) := ⟨_, Prod.ext hs rfl⟩
  have hsl : s.length ≤ 100000 := by
    unfold D.read at hrd
    cases hf : D.find markN l with
    | none => rw [hf] at hrd; cases hrd; simp
    | some f => rw [hf] at hrd; cases hrd; have := data_leR hI (D.find_some hf).1; omega
  have HRD := Lib.hid hrd
  have HE := Lib.hid H
  have hpc := F.scan_count s
  clear hm hI hrd hs H
  go_enter Tryz.func43, Tryz.ntmps43
  go_wp2_with fail
  refine (D.mRead_l p room l markN s er w HM.out HI.out.sorted (by omega) HRD).mono ?_
  rintro x w1 ⟨rfl, hq⟩
  have HB1 := Lib.hid (quietA hq)
  clear hq
  go_wp2_with fail
  refine (refFScan_l s w1 (by omega)).mono ?_
  rintro x w2 ⟨v, rfl, hown, hb2⟩
  have HB2 := Lib.hid (HB1.out.trans (hb2.mono HB1.out.size))
  have HPL : Hid (∀ q ∈ (F.scan s).1, q.length ≤ 8000) := Lib.hid fun q hq => payload_le hq
  generalize (F.scan s).2 = wl at *
  obtain ⟨ps, hps⟩ : ∃ ps, (F.scan s).1 = ps := ⟨_, rfl⟩
  rw [hps] at hown HPL hpc HE
  obtain ⟨va, vc, hvv, hx⟩ := reads_own hown
  rw [strCells_len] at hvv hx
  subst hvv
  have HX := Lib.hid hx
  obtain ⟨gi, hgi⟩ : ∃ gi, w2.heap.size = gi := ⟨_, rfl⟩
  have HGI := Lib.hid hgi
  have HS0 : Hid (EsAt ps w2 gi 0 0 (.slice none 0 0) [] 0 w2) := Lib.hid ⟨World.ownsRow_nil _ _ _ _, by rw [← hgi]; exact Below.refl _ _, by simp, by simp, by simp⟩
  clear hps hx hown hb2 hgi
  go_wp2
  go_loopw [11, 8, 9, 10] (fun i v a z wr => ∃ (j a2 : Nat) (pre : List Nat) (size2 : Nat), i = .int .i64 (j : Int) ∧ a = .int .i64 (a2 : Int) ∧ z = .int .i64 (size2 : Int) ∧ j ≤ ps.length ∧ a2 ≤ far ∧ Hid (EsAt ps w2 gi j a2 v pre size2 wr)) (fun i _ _ _ _ => ps.length - (intOf i).toNat)
  case atStart => exact ⟨0, 0, [], 0, rfl, rfl, rfl, Nat.zero_le _, Nat.zero_le _, HS0⟩
  case round =>
    obtain ⟨j, a2, pre, size2, rfl, rfl, rfl, hj, ha2, HS⟩ := hrel
    have hgw : gi ≤ wr.heap.size := by have := HS.out.bel.size; have := HGI.out; omega
    have HFIN : Hid (∀ (wr' : World) (v' : Value), Below gi w2 wr' → wr'.ownsRow gi 3 1 v' out.length (intCells out) → wr'.ownsRow w.heap.size 3 1 v' out.length (intCells out) ∧ Below w.heap.size w wr') := Lib.hid fun _ _ hb ho => by
      have h1 := HB2.out.size
      have h2 := HGI.out
      exact ⟨own_mono ho (by omega), HB2.out.trans ⟨hb.os, hb.tape, hb.output, hb.size, fun k hk => hb.block k (by omega)⟩⟩
    by_cases hlt : j < ps.length
    · have hi1 : (j : Int) < (ps.length : Int) := by omega
      obtain ⟨b1, o1, rfl, hc⟩ := HX.out j hlt
      have HCL : Hid (∀ W, Below gi w2 W → W.cell? ⟨b1, o1 + j, none⟩ = some (.string (B ps[j]))) := Lib.hid fun W hW => by
        have h1 : w2.cell? ⟨b1, o1 + j, none⟩ = some (.string (B ps[j])) := by rw [hc]; simp [strCells, hlt]
        have h2 := World.block_lt_of_cell? w2 _ h1
        rw [World.cell?_of_block (w := w2) (hW.block _ (by have := HGI.out; exact this ▸ h2))]
        exact h1
      have hcell := HCL.out wr HS.out.bel
      have hq := HPL.out ps[j] (List.getElem_mem hlt)
      have HST := Lib.hid (epsF_at hlt a2)
      have hep := epoch_take ps[j] a2
      clear hc
      generalize ps[j] = q at *
      have hstop : (match epochOf q with | some e => if a2 < e then (e :: (epsF e (ps.drop (j + 1))).1, 8 + q.length + (epsF e (ps.drop (j + 1))).2) else ([], 0) | none => (([] : List Nat), 0)) = ([], 0) → pre = out ∧ size2 = size := fun h => by
        have h1 := HS.out.eps
        rw [HST.out, h, HE.out] at h1
        simp only [List.append_nil, Nat.add_zero] at h1
        exact ⟨(congrArg Prod.fst h1).symm, (congrArg Prod.snd h1).symm⟩
      obtain ⟨va2, vc2, hvv2, -⟩ := reads_own HS.out.own
      rw [intCells_len] at hvv2
      subst hvv2
      go_wp2_with fail
      refine (refTake_l q wr (by omega)).mono ?_
      rintro x w4 ⟨rfl, hq4⟩
      have HB4 := Lib.hid (belowT HS.out.bel (quietA hq4) hgw)
      have HO4 := Lib.hid (own_below HS.out.own (quietA hq4))
      have hgw4 : gi ≤ w4.heap.size := Nat.le_trans hgw (quietA hq4).size
      clear hq4
      rcases hep with ⟨e, ht, he, hn⟩ | ⟨n, r, ht, hcs⟩
      · have hei : ((e : Int) == 0) = false := beq_eq_false_iff_ne.2 (by omega)
        have hen : ¬ (e : Int) = 0 := by omega
        obtain ⟨rfl, rfl⟩ := hstop (by rw [hn])
        rw [ht, show tkRes (Sum.inr e) = _ from tkRes_bad e]
        clear hstop hcell
        go_wp2
        go_ret2
        exact ⟨⟨_, rfl, (HFIN.out _ _ HB4.out HO4.out).1⟩, (HFIN.out _ _ HB4.out HO4.out).2⟩
      · rw [ht, show tkRes (Sum.inl (n, r)) = _ from tkRes_ok n r]
        clear ht
        rcases hcs with ⟨hr, hn⟩ | ⟨rfl, hna, hn⟩ | ⟨rfl, hna, hnf, hn⟩ | ⟨rfl, hna, hnf, hn⟩
        · have hrb : (r == ([] : Tx)) = false := by cases r with | nil => exact absurd rfl hr | cons a b => rfl
          have hrn : (r != ([] : Tx)) = true := by cases r with | nil => exact absurd rfl hr | cons a b => rfl
          obtain ⟨rfl, rfl⟩ := hstop (by rw [hn])
          clear hstop hcell
          go_wp2
          go_ret2
          exact ⟨⟨_, rfl, (HFIN.out _ _ HB4.out HO4.out).1⟩, (HFIN.out _ _ HB4.out HO4.out).2⟩
        · have hrb : (([] : Tx) == ([] : Tx)) = true := rfl
          have hni : (n : Int) ≤ (a2 : Int) := by omega
          obtain ⟨rfl, rfl⟩ := hstop (by
            cases ho : epochOf q with
            | none => rfl
            | some e => dsimp only; rw [if_neg (hn e ho)])
          clear hstop hcell hn
          go_wp2
          go_ret2
          exact ⟨⟨_, rfl, (HFIN.out _ _ HB4.out HO4.out).1⟩, (HFIN.out _ _ HB4.out HO4.out).2⟩
        · have hrb : (([] : Tx) == ([] : Tx)) = true := rfl
          have hni : ¬ (n : Int) ≤ (a2 : Int) := by omega
          have hnf2 : (274877906944 : Int) < (n : Int) := by unfold far at hnf; omega
          obtain ⟨rfl, rfl⟩ := hstop (by rw [hn])
          clear hstop hcell hn
          go_wp2
          go_ret2
          exact ⟨⟨_, rfl, (HFIN.out _ _ HB4.out HO4.out).1⟩, (HFIN.out _ _ HB4.out HO4.out).2⟩
        · have hrb : (([] : Tx) == ([] : Tx)) = true := rfl
          have hni : ¬ (n : Int) ≤ (a2 : Int) := by omega
          have hnf2 : ¬ (274877906944 : Int) < (n : Int) := by unfold far at hnf; omega
          have hpl := HS.out.len
          have hsz := HS.out.siz
          have ho1 := HO4.out
          have hcell2 := HCL.out
          have HES := Lib.hid HS.out.eps
          clear hstop hcell hcell2
          go_wp2_with (at_builtin; refine wpList_append_own _ rfl _ _ 33 rfl gi 3 i0 (.int .i64 0) 1 8 Tryz.underlying33 hi hz0 hz1 hz2 rfl (by decide) _ _ _ rfl (ho1.alloc _) ⟨w4.heap.size, 0, none⟩ 1 1 [.int .i64 (n : Int)] rfl rfl (cell_one_new _ _ _) (by intro u hu; simp at hu; subst hu; rfl) (by unfold maxLen; omega) (by omega) (by simp; omega) ?_; intro v' w5 hown' hgrow _; have hb5 := grown_base (HB4.out.alloc hgw4 _) (ho1.alloc _) (Nat.le_refl _) (by simp; omega) hgrow; have hc5 := HCL.out _ hb5)
          have HNX : Hid (EsAt ps w2 gi (j + 1) n v' (pre ++ [n]) (size2 + 8 + q.length) w5) := Lib.hid ⟨by
            have e1 : intCells (pre ++ [n]) = intCells pre ++ [.int .i64 (n : Int)] := by simp [intCells]
            rw [List.length_append, e1]; exact hown', hb5, by rw [List.length_append]; simp only [List.length_cons, List.length_nil]; omega, by
            rw [HES.out, HST.out, hn]
            dsimp only
            rw [if_pos hna]
            dsimp only
            rw [List.append_assoc, List.singleton_append]
            exact Prod.ext rfl (by dsimp only; omega), by omega⟩
          have hz8 : (size2 : Int) + 8 + (q.length : Int) = ((size2 + 8 + q.length : Nat) : Int) := by omega
          have HZ8 := Lib.hid hz8
          clear hown' hgrow hz8
          go_wp2
          rw [HZ8.out]
          go_roundw
          case rel => exact ⟨j + 1, n, _, _, by go_num, rfl, rfl, by omega, by omega, HNX⟩
          case measure => simp [intOf]; omega
    · have hend : pre = out ∧ size2 = size := by
        have h1 := HS.out.eps
        rw [List.drop_eq_nil_of_le (by omega), HE.out] at h1
        simp only [epsF, List.append_nil, Nat.add_zero] at h1
        exact ⟨(congrArg Prod.fst h1).symm, (congrArg Prod.snd h1).symm⟩
      obtain ⟨rfl, rfl⟩ := hend
      go_wp2
      go_ret2
      exact ⟨⟨_, rfl, (HFIN.out _ _ HS.out.bel HS.out.own).1⟩, (HFIN.out _ _ HS.out.bel HS.out.own).2⟩
end Go.Proofs.YtmfhipjceeijmaaGreat.A

/-
  The document's answer to chapter 10: Epoch, Raise.
-/
namespace Go.Proofs.YtmfhipjceeijmaaGreat.A
open Go.RowKit
open D (Tx ReadsI i64B readsI_below dP MAt)
attribute [local go_sem] ext_Bd ext_Bl ext_Bt toList_B add_B size_B get_Bt

theorem read_le {room : Nat} {l : List D.F} (n : Tx) (hI : D.Inv room l) : (D.read n l).1.length ≤ room := by
  unfold D.read
  cases hf : D.find n l with
  | none => simp
  | some f => exact data_leR hI (D.find_some hf).1
theorem last_at {out : List Nat} {m : Nat} (h : out.length = m + 1) : ∃ q, (intCells out)[m]? = some (.int .i64 (q : Int)) ∧ out.getLast?.getD 0 = q := by
  refine ⟨out[m], by simp [intCells, List.getElem?_eq_getElem (show m < out.length by omega)], ?_⟩
  rw [List.getLast?_eq_getElem?, show out.length - 1 = m by omega, List.getElem?_eq_getElem (by omega)]
  rfl
set_option maxRecDepth 100000 in
set_option maxHeartbeats 2000000 in
theorem rEpoch_l {bs p room : Nat} {l : List D.F} (a k : Nat) (b : Bool) (w : World) (hm : MAt bs w p (room : Int) l) (hI : D.Inv room l) (hroom : room ≤ 100000) (H : epochD l = (a, k, b)) :
    Calls Tryz.prog 14 #[dP p] w fun x w' => x = .returned (.int .i64 (a : Int)) ∧ Below w.heap.size w w' := by
  obtain ⟨s, hs⟩ : ∃ s, (D.read markN l).1 = s := ⟨_, rfl⟩
  obtain ⟨⟨out, size⟩, he⟩ : ∃ q, epsF 0 (F.scan s).1 = q := ⟨_, rfl⟩
  have HE := Lib.hid (rEpochs_l s out size w hm hI hroom hs he)
  have ha : out.getLast?.getD 0 = a := by
    have h1 := (marks_eps he).1
    unfold epochD at H
    rw [hs] at H
    rw [H] at h1
    exact h1.symm
  have hol : out.length ≤ 100000 := by
    have h1 := epsF_len (F.scan s).1 0
    rw [he] at h1
    have h2 := F.scan_count s
    have h3 := read_le markN hI
    rw [hs] at h3
    dsimp only at h1
    omega
  clear hm hI hs he H
  go_enter Tryz.func14, Tryz.ntmps14
  go_wp2_with fail
  refine HE.out.mono ?_
  rintro x w1 ⟨⟨v, rfl, hown⟩, hb1⟩
  obtain ⟨va, vc, hvv, hx⟩ := reads_own hown
  rw [intCells_len] at hvv hx
  subst hvv
  cases hm : out.length with
  | zero =>
    have ha0 : a = 0 := by rw [← ha, List.length_eq_zero_iff.1 hm]; rfl
    subst ha0
    clear hx hown ha
    go_wp2
    go_ret
    exact ⟨rfl, hb1⟩
  | succ m =>
    obtain ⟨q, hq1, hq2⟩ := last_at hm
    obtain ⟨b1, o1, hab, hc⟩ := hx m (by omega)
    subst hab
    rw [hq1] at hc
    have hqa : q = a := by rw [← hq2, ha]
    subst hqa
    obtain ⟨L, hL⟩ : ∃ L, m + 1 = L := ⟨_, rfl⟩
    have hmi : (L : Int) - 1 = (m : Int) := by omega
    have hml : (m : Int) < (L : Int) := by omega
    have hmb : (L : Int) ≤ 1000000000000 := by omega
    have hm1 : (1 : Int) ≤ (L : Int) := by omega
    have hLn : ((L : Int) == 0) = false := beq_eq_false_iff_ne.2 (by omega)
    have hLz : ¬ L = 0 := by omega
    rw [hL]
    clear hx hown ha hq1 hq2 hL
    go_wp2
    go_ret
    exact ⟨rfl, hb1⟩
set_option maxRecDepth 100000 in
set_option maxHeartbeats 4000000 in
theorem rRaise_l {bs p room : Nat} {l : List D.F} (z : Int) (e : Nat) (l2 : List D.F) (w : World) (hm : MAt bs w p (room : Int) l) (hI : D.Inv room l) (hroom : room ≤ 100000) (H : raiseD room z l = (e, l2)) :
    Calls Tryz.prog 22 #[dP p, .int .i64 z] w fun x w' => x = .returned (.int .i64 (e : Int)) ∧ MAt bs w' p (room : Int) l2 ∧ D.Kp bs p w w' := by
  have HM := Lib.hid hm
  have HI := Lib.hid hI
  have h40 := hI.many
  obtain ⟨⟨a, k, b⟩, hep⟩ : ∃ q, epochD l = q := ⟨_, rfl⟩
  unfold raiseD at H
  by_cases hz : z < 1 ∨ (far : Int) < z
  · rw [if_pos hz] at H
    cases H
    have hzz : z < 1 ∨ (¬ z < 1 ∧ 274877906944 < z) := by unfold far at hz; omega
    clear hz hm hI hep
    rcases hzz with h1 | ⟨h1, h2⟩
    · go_enter Tryz.func22, Tryz.ntmps22
      go_wp2
      go_ret
      exact ⟨rfl, HM.out, D.Kp.refl _ _⟩
    · go_enter Tryz.func22, Tryz.ntmps22
      go_wp2
      go_ret
      exact ⟨rfl, HM.out, D.Kp.refl _ _⟩
  rw [if_neg hz] at H
  obtain ⟨n, rfl⟩ : ∃ n : Nat, z = n := ⟨z.toNat, by omega⟩
  have hn : n ≤ far := by omega
  have hz1 : ¬ (n : Int) < 1 := by omega
  have hz2 : ¬ (274877906944 : Int) < (n : Int) := by unfold far at hz; omega
  rw [Int.toNat_natCast, hep] at H
  dsimp only at H
  have HEP := Lib.hid (rEpoch_l a k b w hm hI hroom hep)
  by_cases h1 : n < a
  · rw [if_pos h1] at H
    cases H
    have h1i : (n : Int) < (a : Int) := by omega
    clear hz hm hI hep
    go_enter Tryz.func22, Tryz.ntmps22
    go_wp2_with fail
    refine HEP.out.mono ?_
    rintro x w1 ⟨rfl, hb1⟩
    have HM1 := Lib.hid (HM.out.below hb1)
    go_wp2
    go_ret
    exact ⟨rfl, HM1.out, D.Kp.of_below hb1⟩
  rw [if_neg h1] at H
  have h1i : ¬ (n : Int) < (a : Int) := by omega
  by_cases h2 : a < n
  · rw [if_pos h2] at H
    have h2n : ((n : Int) == (a : Int)) = false := beq_eq_false_iff_ne.2 (by omega)
    have h2m : ¬ (n : Int) = (a : Int) := by omega
    have h2k : ¬ n = a := by omega
    obtain ⟨s, hs⟩ : ∃ s, (D.read markN l).1 = s := ⟨_, rfl⟩
    obtain ⟨er, hrd⟩ : ∃ er, D.read markN l = (s, er) := ⟨_, Prod.ext hs rfl⟩
    obtain ⟨⟨out, size⟩, he⟩ : ∃ q, epsF 0 (F.scan s).1 = q := ⟨_, rfl⟩
    have HEE := Lib.hid fun (w1 : World) (hb : Below w.heap.size w w1) => rEpochs_l s out size w1 (hm.below hb) hI hroom hs he
    have HRD := Lib.hid hrd
    have hsl : s.length ≤ 100000 := by have := read_le markN hI; rw [hs] at this; omega
    have hol : out.length ≤ 100000 := by
      have h1 := epsF_len (F.scan s).1 0
      rw [he] at h1
      have h2 := F.scan_count s
      dsimp only at h1
      omega
    have hme := marks_eps he
    have hmk : marksOf s = (a, k, b) := by unfold epochD at hep; rw [hs] at hep; exact hep
    rw [hmk] at hme
    dsimp only at hme
    have HCND : Hid ((b = true ∧ k ≤ 20) ↔ (size = s.length ∧ out.length ≤ 20)) := Lib.hid (by rw [hme.2.2, hme.2.1])
    obtain ⟨pl, hpl⟩ : ∃ pl, N.putL n = pl := ⟨_, rfl⟩
    have HPL := Lib.hid hpl
    have HPG := Lib.hid (show F.good pl by rw [← hpl]; exact (put_good hn).1)
    obtain ⟨f, hf⟩ : ∃ f, F.frame pl = f := ⟨_, rfl⟩
    have hfl : f.length ≤ 14 := by rw [← hf, ← hpl]; exact frame_le hn
    have HFP := Lib.hid fun w1 : World => refFPut_ok pl w1 HPG.out
    rw [hf] at HFP
    have HF := Lib.hid hf
    obtain ⟨⟨e1, l1⟩, hk⟩ : ∃ q, keepD room n l = q := ⟨_, rfl⟩
    rw [hk] at H
    dsimp only at H
    have HI1 := Lib.hid (show D.Inv room l1 by have := keep_inv (room := room) (e := n) hI; rw [hk] at this; exact this)
    have HK : Hid ((if size = s.length ∧ out.length ≤ 20 then D.append room markN f l else replaceD room markN pl l) = (e1, l1)) := Lib.hid (by
      unfold keepD at hk
      rw [hep, hpl, hf] at hk
      by_cases hc : size = s.length ∧ out.length ≤ 20
      · rw [if_pos hc]
        rw [if_pos (HCND.out.2 hc)] at hk
        exact hk
      · rw [if_neg hc]
        rw [if_neg fun h => hc (HCND.out.1 h)] at hk
        exact hk)
    have hnb : n ≤ 1099511627776 := by unfold far at hn; omega
    have HU := Lib.hid (show D.used l ≤ 4000000000 by have := hI.room; omega)
    clear hz hm hI hep hs hrd he hme hmk hpl hf hk HCND
    go_enter Tryz.func22, Tryz.ntmps22
    go_wp2_with fail
    refine HEP.out.mono ?_
    rintro x w1 ⟨rfl, hb1⟩
    have HB1 := Lib.hid hb1
    clear hb1 HEP
    go_wp2_with fail
    refine (HEE.out w1 HB1.out).mono ?_
    rintro x w2 ⟨⟨v, rfl, hown⟩, hb2⟩
    obtain ⟨va, vc, hvv, -⟩ := reads_own hown
    rw [intCells_len] at hvv
    subst hvv
    have HB2 := Lib.hid (HB1.out.trans (hb2.mono HB1.out.size))
    clear hown hb2 HEE HB1
    go_wp2_with fail
    refine (D.mRead_l p room l markN s er w2 (HM.out.below HB2.out) HI.out.sorted (by omega) HRD).mono ?_
    rintro x w3 ⟨rfl, hq⟩
    have HB3 := Lib.hid (HB2.out.trans ((quietA hq).mono HB2.out.size))
    clear hq HB2 HRD
    go_wp2_with fail
    refine (rPutN n pl w3 hnb HPL).mono ?_
    rintro x w4 ⟨rfl, hb4⟩
    have HB4 := Lib.hid (HB3.out.trans (hb4.mono HB3.out.size))
    clear hb4 HB3
    go_wp2_with fail
    refine (HFP.out w4).mono ?_
    rintro x w5 ⟨rfl, hb5⟩
    have HB5 := Lib.hid (HB4.out.trans (hb5.mono HB4.out.size))
    have HM5 := Lib.hid (HM.out.below HB5.out)
    clear hb5 HB4 HFP HM
    by_cases hc : size = s.length ∧ out.length ≤ 20
    · have hc1 : ((size : Int) == (s.length : Int)) = true := beq_iff_eq.2 (by omega)
      have hc2 : (out.length : Int) ≤ 20 := by omega
      have hcn := hc.1
      have HAP := Lib.hid (show D.append room markN f l = (e1, l1) by have := HK.out; rw [if_pos hc] at this; exact this)
      have HCN := Lib.hid hcn
      clear hc HK hcn
      go_wp2_with fail
      refine (D.mAppend_l p room l markN f e1 l1 w5 HM5.out HI.out.sorted HI.out.many (by simp [markN]) (by omega) HU.out HAP).mono ?_
      rintro x w6 ⟨rfl, hm6, hk6⟩
      have HM6 := Lib.hid hm6
      have HK6 := Lib.hid ((D.Kp.of_below (bs := bs) (p := p) HB5.out).trans hk6)
      clear hm6 hk6 HM5
      by_cases h0 : e1 = 0
      · subst h0
        rw [if_pos rfl] at H
        have HSY := Lib.hid H
        have h41 := HI1.out.many
        clear H
        go_wp2_with fail
        refine (D.mSync_l p room l1 markN e l2 w6 HM6.out HI1.out.sorted (by omega) (fun f hf => by have := data_leR HI1.out hf; omega) HSY).mono ?_
        rintro x w7 ⟨rfl, hm7, hk7⟩
        have HM7 := Lib.hid hm7
        have HK7 := Lib.hid (HK6.out.trans hk7)
        clear hm7 hk7
        go_wp2
        go_ret
        exact ⟨rfl, HM7.out, HK7.out⟩
      · rw [if_neg h0] at H
        cases H
        have hei : ((e : Int) == 0) = false := beq_eq_false_iff_ne.2 (by omega)
        have hen : ¬ (e : Int) = 0 := by omega
        clear h0
        go_wp2
        go_ret
        exact ⟨rfl, HM6.out, HK6.out⟩
    · have HAP := Lib.hid (show replaceD room markN pl l = (e1, l1) by have := HK.out; rw [if_neg hc] at this; exact this)
      by_cases hc1 : size = s.length
      · have hc2 : ¬ (out.length : Int) ≤ 20 := by have : ¬ out.length ≤ 20 := fun h => hc ⟨hc1, h⟩; omega
        have hc3 : ((size : Int) == (s.length : Int)) = true := beq_iff_eq.2 (by omega)
        have HCN := Lib.hid hc1
        clear hc HK hc1
        go_wp2_with fail
        refine (rWrite_l markN pl f e1 l1 w5 HM5.out HI.out (by omega) (by simp [markN]) HF (by omega) HAP.out).mono ?_
        rintro x w6 ⟨rfl, hm6, hk6⟩
        have HM6 := Lib.hid hm6
        have HK6 := Lib.hid ((D.Kp.of_below (bs := bs) (p := p) HB5.out).trans hk6)
        clear hm6 hk6 HM5
        by_cases h0 : e1 = 0
        · subst h0
          rw [if_pos rfl] at H
          have HSY := Lib.hid H
          have h41 := HI1.out.many
          clear H
          go_wp2_with fail
          refine (D.mSync_l p room l1 markN e l2 w6 HM6.out HI1.out.sorted (by omega) (fun f hf => by have := data_leR HI1.out hf; omega) HSY).mono ?_
          rintro x w7 ⟨rfl, hm7, hk7⟩
          have HM7 := Lib.hid hm7
          have HK7 := Lib.hid (HK6.out.trans hk7)
          clear hm7 hk7
          go_wp2
          go_ret
          exact ⟨rfl, HM7.out, HK7.out⟩
        · rw [if_neg h0] at H
          cases H
          have hei : ((e : Int) == 0) = false := beq_eq_false_iff_ne.2 (by omega)
          have hen : ¬ (e : Int) = 0 := by omega
          clear h0
          go_wp2
          go_ret
          exact ⟨rfl, HM6.out, HK6.out⟩
      · have hc3 : ((size : Int) == (s.length : Int)) = false := beq_eq_false_iff_ne.2 (by omega)
        have hc4 : ¬ (size : Int) = (s.length : Int) := by omega
        clear hc HK
        go_wp2_with fail
        refine (rWrite_l markN pl f e1 l1 w5 HM5.out HI.out (by omega) (by simp [markN]) HF (by omega) HAP.out).mono ?_
        rintro x w6 ⟨rfl, hm6, hk6⟩
        have HM6 := Lib.hid hm6
        have HK6 := Lib.hid ((D.Kp.of_below (bs := bs) (p := p) HB5.out).trans hk6)
        clear hm6 hk6 HM5
        by_cases h0 : e1 = 0
        · subst h0
          rw [if_pos rfl] at H
          have HSY := Lib.hid H
          have h41 := HI1.out.many
          clear H
          go_wp2_with fail
          refine (D.mSync_l p room l1 markN e l2 w6 HM6.out HI1.out.sorted (by omega) (fun f hf => by have := data_leR HI1.out hf; omega) HSY).mono ?_
          rintro x w7 ⟨rfl, hm7, hk7⟩
          have HM7 := Lib.hid hm7
          have HK7 := Lib.hid (HK6.out.trans hk7)
          clear hm7 hk7
          go_wp2
          go_ret
          exact ⟨rfl, HM7.out, HK7.out⟩
        · rw [if_neg h0] at H
          cases H
          have hei : ((e : Int) == 0) = false := beq_eq_false_iff_ne.2 (by omega)
          have hen : ¬ (e : Int) = 0 := by omega
          clear h0
          go_wp2
          go_ret
          exact ⟨rfl, HM6.out, HK6.out⟩
  · rw [if_neg h2] at H
    have h2n : ((n : Int) == (a : Int)) = true := beq_iff_eq.2 (by omega)
    have h2m : n = a := by omega
    have HSY := Lib.hid H
    subst h2m
    clear hz hm hI hep H
    go_enter Tryz.func22, Tryz.ntmps22
    go_wp2_with fail
    refine HEP.out.mono ?_
    rintro x w1 ⟨rfl, hb1⟩
    have HB1 := Lib.hid hb1
    have HM1 := Lib.hid (HM.out.below hb1)
    clear hb1 HEP
    go_wp2_with fail
    refine (D.mSync_l p room l markN e l2 w1 HM1.out HI.out.sorted (by omega) (fun f hf => by have := data_leR HI.out hf; omega) HSY).mono ?_
    rintro x w2 ⟨rfl, hm2, hk2⟩
    have HM2 := Lib.hid hm2
    have HK2 := Lib.hid ((D.Kp.of_below (bs := bs) (p := p) HB1.out).trans hk2)
    clear hm2 hk2
    go_wp2
    go_ret
    exact ⟨rfl, HM2.out, HK2.out⟩
end Go.Proofs.YtmfhipjceeijmaaGreat.A

/-
  A disk and the document's side by side: what the law's helper alike tells.
-/
namespace Go.Proofs.YtmfhipjceeijmaaGreat.A
open Go.RowKit
open D (Tx ReadsI i64B readsI_below dP MAt F)
attribute [local go_sem] ext_Bd ext_Bl ext_Bt toList_B add_B size_B get_Bt

theorem MAt_lt {w : World} {bs p : Nat} {room : Int} {l : List F} (h : MAt bs w p room l) : p < w.heap.size := by
  obtain ⟨_, v, hp, _⟩ := h
  exact (Array.getElem?_eq_some_iff.1 hp).1
/-- The document's disk stays while blocks are written that are none of its own. -/
theorem MAt_but {w w' : World} {bs p : Nat} {room : Int} {l : List F} {S : Nat → Prop} (h : MAt bs w p room l) (hb : D.But S w w') (hp : ¬ S p) (hS : ∀ k c fr, S k → w.heap[k]? ≠ some (.cells c 101 fr)) : MAt bs w' p room l := by
  have hlt := MAt_lt h
  obtain ⟨h1, v, hp2, hr⟩ := h
  refine ⟨h1, v, by rw [hb.block p hlt hp]; exact hp2, D.row_keep hr fun k c hk => ?_⟩
  rw [hb.block k (Array.getElem?_eq_some_iff.1 hk).1 fun h2 => hS k c _ h2 hk]
  exact hk
theorem Kp_low {w wr w' : World} {bs p : Nat} (hbs : bs = w.heap.size) (h : Below w.heap.size w wr) (hk : D.Kp bs p wr w') : Below w.heap.size w w' :=
  ⟨hk.os.trans h.os, hk.tape.trans h.tape, hk.output.trans h.output, Nat.le_trans h.size hk.size, fun k hlt => by
    have hlt2 : k < wr.heap.size := Nat.lt_of_lt_of_le hlt h.size
    obtain ⟨o, ho⟩ : ∃ o, wr.heap[k]? = some o := ⟨_, Array.getElem?_eq_getElem hlt2⟩
    rw [hk.block k o ho (.inl (by omega)), ← ho, h.block k hlt]⟩
theorem DC_kp (C : D.DC) {w w' : World} {bs p mp room : Nat} {l : List F} {S : Nat → Prop} (h : C.At bs w p room l S) (hk : D.Kp bs mp w w') (hm : ¬ S mp) : C.At bs w' p room l S :=
  C.keep h hk.size fun k hs => by
    obtain ⟨o, ho⟩ : ∃ o, w.heap[k]? = some o := ⟨_, Array.getElem?_eq_getElem (C.low h hs).2⟩
    rw [hk.block k o ho (.inr ⟨fun e => hm (e ▸ hs), fun c fr e => C.typ h hs (by rw [ho, e])⟩), ho]
theorem listA {w : World} {bs : Nat} {v : Value} {n : Nat} {l : List F} (h : w.ownsRow bs 9 1 v n (strCells (l.map F.name))) : Reads w v (strCells (l.map F.name)) := reads_own h
abbrev P2A (w1 : World) (a b : Addr) (v u : Value) (w : World) : Prop := w.cell? a = some v ∧ w.cell? b = some u ∧ KeptB w1 w
theorem P2A_drew {w1 w : World} {a b : Addr} {v u : Value} (h : P2A w1 a b v u w) : P2A w1 a b v u w.drew := ⟨h.1, h.2.1, keptB_drew h.2.2⟩
theorem P2A_call {w1 w w2 : World} {a b : Addr} {v u : Value} (h : P2A w1 a b v u w) (hb : Below w.heap.size w w2) : P2A w1 a b v u w2 := ⟨keepsA hb _ _ h.1, keepsA hb _ _ h.2.1, keptB_call h.2.2 hb⟩
abbrev P4A (w1 : World) (a b c d : Addr) (v u x y : Value) (w : World) : Prop := w.cell? a = some v ∧ w.cell? b = some u ∧ w.cell? c = some x ∧ w.cell? d = some y ∧ KeptB w1 w
theorem P4A_drew {w1 w : World} {a b c d : Addr} {v u x y : Value} (h : P4A w1 a b c d v u x y w) : P4A w1 a b c d v u x y w.drew := ⟨h.1, h.2.1, h.2.2.1, h.2.2.2.1, keptB_drew h.2.2.2.2⟩
theorem P4A_call {w1 w w2 : World} {a b c d : Addr} {v u x y : Value} (h : P4A w1 a b c d v u x y w) (hb : Below w.heap.size w w2) : P4A w1 a b c d v u x y w2 := ⟨keepsA hb _ _ h.1, keepsA hb _ _ h.2.1, keepsA hb _ _ h.2.2.1, keepsA hb _ _ h.2.2.2.1, keptB_call h.2.2.2.2 hb⟩
def Names (l : List F) : Prop := ∀ f ∈ l, f.name.length ≤ 1000
theorem Kept_trans {a b c : World} (h : KeptB a b) (k : KeptB b c) : KeptB a c := Below.trans h (Below.mono k h.size)
set_option maxHeartbeats 16000000 in
set_option maxRecDepth 100000 in
theorem alike10_l (C : D.DC) {bs : Nat} (p mp room : Nat) (l : List F) (S : Nat → Prop) (w : World) (h : C.At bs w p room l S) (hm : MAt bs w mp (room : Int) l) (hi : D.Inv room l) (hro : room ≤ 1073741824) (hn : Names l) :
    Calls Tryz.prog 9 #[.agg #[dP p, dP mp]] w fun x w' => x = .returned (.bool true) ∧ Below w.heap.size w w' := by
  have HB0 := Lib.hid ((Below.refl w.heap.size w).alloc (Nat.le_refl _) (.cells #[dP p, dP mp] 28))
  have HC0 := Lib.hid (heap_alloc_new w (.cells #[dP p, dP mp] 28))
  have HD := Lib.hid (C.below h HB0.out)
  have HM := Lib.hid (hm.below HB0.out)
  have HI := Lib.hid hi
  have HN := Lib.hid hn
  have h40 := hi.many
  obtain ⟨u, HU⟩ : ∃ u, Hid (D.used l = u) := ⟨_, Lib.hid rfl⟩
  have hu : u ≤ 1073741824 := by have := hi.room; have := HU.out; omega
  obtain ⟨g, hge⟩ : ∃ g, w.heap.size = g := ⟨_, rfl⟩
  rw [hge] at HC0
  have HGE := Lib.hid hge
  clear h hm hi hn hge
  go_enter Tryz.func9, Tryz.ntmps9
  go_upto_region 1 with (fail)
  rw [HGE.out]
  generalize w.alloc (.cells #[dP p, dP mp] 28) = W at *
  have k0 := blkA HC0.out 0
  have k1 := blkA HC0.out 1
  simp only [List.getElem?_toArray, List.getElem?_cons_zero, List.getElem?_cons_succ] at k0 k1
  have HK0 := Lib.hid (And.intro k0 k1)
  go_wp2_with fail
  refine (C.list HD.out HI.out hro).mono ?_
  rintro x w1 ⟨⟨v1, rfl, hr1⟩, hb1⟩
  have HR1 := Lib.hid hr1
  have HB1 := Lib.hid hb1
  obtain ⟨a1, c1, hv1, -⟩ := hr1
  rw [strCells_len, List.length_map] at hv1
  subst hv1
  clear hb1 k0 k1
  have k1 := keepsA HB1.out _ _ HK0.out.2
  go_wp2_with fail
  refine (D.mList_l mp room l _ (HM.out.below HB1.out) (by omega)).mono ?_
  rintro x w2 ⟨v2, rfl, ho2, hb2⟩
  have HR2 := Lib.hid (listA ho2)
  have HR1b := Lib.hid (reads_below HR1.out hb2)
  have HB2 := Lib.hid (HB1.out.trans (hb2.mono HB1.out.size))
  obtain ⟨a2, c2, hv2, -⟩ := listA ho2
  rw [strCells_len, List.length_map] at hv2
  subst hv2
  clear hb2 ho2 HR1 HB1 k1
  have HUD : Hid (∀ V, KeptB w2 V → Calls Tryz.prog 31 #[dP p] V fun x w' => x = .returned (.int .i64 (u : Int)) ∧ Below V.heap.size V w') := Lib.hid fun V hV => by
    have := C.used (C.below HD.out (HB2.out.trans (Below.mono hV HB2.out.size))) HI.out hro
    rw [HU.out] at this
    exact this
  have HUM : Hid (∀ V, KeptB w2 V → Calls Tryz.prog 32 #[dP mp] V fun x w' => x = .returned (.int .i64 (u : Int)) ∧ Below V.heap.size V w') := Lib.hid fun V hV =>
    (D.mUsed_l mp room l u V (HM.out.below (HB2.out.trans (Below.mono hV HB2.out.size))) (by omega) (by have := HU.out; omega) HU).mono fun _ _ ⟨a, b⟩ => ⟨a, quietA b⟩
  go_upto_region 3 with (fail)
  have hS : P2A w2 ⟨g, 0, none⟩ ⟨g, 1, none⟩ (dP p) (dP mp) w2 := ⟨keepsA HB2.out _ _ HK0.out.1, keepsA HB2.out _ _ HK0.out.2, Below.refl _ _⟩
  refine wp_region_held_drew (S := P2A w2 ⟨g, 0, none⟩ ⟨g, 1, none⟩ (dP p) (dP mp)) (by kernel_rfl) ?_ (fun hHeld => ?_)
  · exact P2A_drew hS
  refine take_wanted (i := 0) (v := ?_) rfl (by kernel_rfl) (by kernel_rfl) (by kernel_rfl) (fun _ _ _ h => h) (by rfl) ?_ (by assumption) ?_
  rotate_left
  · intro w hSw
    (try dsimp only at hSw)
    go_simp
    (try with_reducible rfl)
  simp only [Act.put, List.setIfInBounds_toArray, List.set_cons_zero, List.set_cons_succ]
  refine take_wanted (i := 1) (v := ?_) rfl (by kernel_rfl) (by kernel_rfl) (by kernel_rfl) (fun _ _ _ h => h) (by rfl) ?_ (by assumption) ?_
  rotate_left
  · intro w hSw
    (try dsimp only at hSw)
    go_simp
    (try with_reducible rfl)
  simp only [Act.put, List.setIfInBounds_toArray, List.set_cons_zero, List.set_cons_succ]
  refine take_wanted (i := 2) (v := ?_) rfl (by kernel_rfl) (by kernel_rfl) (by kernel_rfl) (fun _ _ _ h => h) (by rfl) ?_ (by assumption) ?_
  rotate_left
  · intro w hSw
    (try dsimp only at hSw)
    go_simp
    (try with_reducible rfl)
  simp only [Act.put, List.setIfInBounds_toArray, List.set_cons_zero, List.set_cons_succ]
  refine take_wanted (i := 3) (v := ?_) rfl (by kernel_rfl) (by kernel_rfl) (by kernel_rfl) (fun _ _ _ h => h) (by rfl) ?_ (by assumption) ?_
  rotate_left
  · intro w hSw
    (try dsimp only at hSw)
    go_simp
    (try with_reducible rfl)
  simp only [Act.put, List.setIfInBounds_toArray, List.set_cons_zero, List.set_cons_succ]
  refine take_wanted (i := 4) (v := .bool false) rfl (by kernel_rfl) (by kernel_rfl) (by kernel_rfl) (fun _ _ _ h => h) (by rfl) ?_ (by assumption) ?_
  · intro w hSw
    (try dsimp only at hSw)
    go_simp
    try simp
  simp only [Act.put, List.setIfInBounds_toArray, List.set_cons_zero, List.set_cons_succ]
  refine take_wanted (i := 5) (v := ?_) rfl (by kernel_rfl) (by kernel_rfl) (by kernel_rfl) (fun _ _ _ h => h) (by rfl) ?_ (by assumption) ?_
  rotate_left
  · intro w hSw
    (try dsimp only at hSw)
    go_simp
    (try with_reducible rfl)
  simp only [Act.put, List.setIfInBounds_toArray, List.set_cons_zero, List.set_cons_succ]
  refine take_wanted (i := 6) (v := ?_) rfl (by kernel_rfl) (by kernel_rfl) (by kernel_rfl) (fun _ _ _ h => h) (by rfl) ?_ (by assumption) ?_
  rotate_left
  · intro w hSw
    (try dsimp only at hSw)
    go_simp
    (try with_reducible rfl)
  simp only [Act.put, List.setIfInBounds_toArray, List.set_cons_zero, List.set_cons_succ]
  refine take_wanted (i := 7) (v := ?_) rfl (by kernel_rfl) (by kernel_rfl) (by kernel_rfl) (fun _ _ _ h => h) (by rfl) ?_ (by assumption) ?_
  rotate_left
  · intro w hSw
    (try dsimp only at hSw)
    go_simp
    (try with_reducible rfl)
  simp only [Act.put, List.setIfInBounds_toArray, List.set_cons_zero, List.set_cons_succ]
  refine take_wanted (i := 9) (v := ?_) rfl (by kernel_rfl) (by kernel_rfl) (by kernel_rfl) (fun _ _ _ h => h) (by rfl) ?_ (by assumption) ?_
  rotate_left
  · intro w hSw
    (try dsimp only at hSw)
    go_simp
    (try with_reducible rfl)
  simp only [Act.put, List.setIfInBounds_toArray, List.set_cons_zero, List.set_cons_succ]
  refine take_wanted (i := 10) (v := ?_) rfl (by kernel_rfl) (by kernel_rfl) (by kernel_rfl) (fun _ _ _ h => h) (by rfl) ?_ (by assumption) ?_
  rotate_left
  · intro w hSw
    (try dsimp only at hSw)
    go_simp
    (try with_reducible rfl)
  simp only [Act.put, List.setIfInBounds_toArray, List.set_cons_zero, List.set_cons_succ]
  refine take_only (i := 8) (by kernel_rfl) rfl (by rfl) (fun K hK => ?_)
  go_simp
  go_at_call 31
  refine (HUD.out _ hHeld.2.2).mono ?_
  rintro x w3 ⟨rfl, hb3⟩
  refine hK.out _ _ ?_ (fun hHeld => ?_)
  · exact P2A_call hHeld hb3
  clear hK K
  refine take_only (i := 11) (by kernel_rfl) rfl (by rfl) (fun K hK => ?_)
  go_simp
  go_at_call 32
  refine (HUM.out _ hHeld.2.2).mono ?_
  rintro x w4 ⟨rfl, hb3b⟩
  refine hK.out _ _ ?_ (fun hHeld => ?_)
  · exact P2A_call hHeld hb3b
  clear hK K
  refine take_wanted (i := 12) (v := .bool false) rfl (by kernel_rfl) (by kernel_rfl) (by kernel_rfl) (fun _ _ _ h => h) (by rfl) ?_ (by assumption) ?_
  · intro w hSw
    (try dsimp only at hSw)
    go_simp
    try simp
  simp only [Act.put, List.setIfInBounds_toArray, List.set_cons_zero, List.set_cons_succ]
  refine take_wanted (i := 13) (v := ?_) rfl (by kernel_rfl) (by kernel_rfl) (by kernel_rfl) (fun _ _ _ h => h) (by rfl) ?_ (by assumption) ?_
  rotate_left
  · intro w hSw
    (try dsimp only at hSw)
    go_simp
    (try with_reducible rfl)
  simp only [Act.put, List.setIfInBounds_toArray, List.set_cons_zero, List.set_cons_succ]
  refine wpAnyH_done (by kernel_rfl) ?_ _
  have HB4k := Lib.hid hHeld.2.2
  clear hHeld hS
  have HB4 := Lib.hid (HB2.out.trans (Below.mono HB4k.out HB2.out.size))
  have HR1d := Lib.hid (reads_below HR1b.out HB4k.out)
  have HR2d := Lib.hid (reads_below HR2.out HB4k.out)
  clear HR1b HR2 HB2 HUD HUM HB4k
  go_wp2
  go_loopw [5] (fun i wr => ∃ j : Nat, i = .int .i64 j ∧ j ≤ l.length ∧ Below w4.heap.size w4 wr) (fun i _ => l.length - (intOf i).toNat)
  case atStart => exact ⟨0, rfl, Nat.zero_le _, by first | exact Below.refl _ _ | exact (Below.refl _ w4).drew⟩
  case round =>
    obtain ⟨j, rfl, hj, hbr⟩ := hrel
    have HBR := Lib.hid hbr
    clear hbr
    by_cases hlt : j < l.length
    · have hj1 : (j : Int) < (l.length : Int) := by omega
      obtain ⟨_, _, hv, hx⟩ := HR1d.out
      rw [strCells_len, List.length_map] at hv hx
      cases hv
      obtain ⟨b1, o1, hab, g1⟩ := hx j hlt
      subst hab
      obtain ⟨_, _, hv, hx2⟩ := HR2d.out
      rw [strCells_len, List.length_map] at hv hx2
      cases hv
      obtain ⟨b2, o2, hab, g2⟩ := hx2 j hlt
      subst hab
      have e0 : (strCells (l.map F.name))[j]? = some (.string (B l[j].name)) := by simp [strCells, hlt]
      rw [e0] at g1 g2
      have G1 := Lib.hid g1
      have G2 := Lib.hid g2
      have HFD := Lib.hid (D.find_mem HI.out.sorted (List.getElem_mem hlt))
      have hnl := HN.out _ (List.getElem_mem hlt)
      clear g1 g2 e0 hx hx2
      generalize l[j] = f at G1 G2 HFD hnl
      have HRE : Hid (D.read f.name l = (f.data, 0)) := Lib.hid (by unfold D.read; rw [HFD.out])
      have HSY : Hid (D.synced f.name l = f.syn) := Lib.hid (by unfold D.synced; rw [HFD.out])
      clear HFD
      have HBW := Lib.hid (HB4.out.trans (Below.mono HBR.out HB4.out.size))
      have HRC : Hid (∀ V, KeptB wr V → Calls Tryz.prog 33 #[dP p, .string (B f.name)] V fun x w' => x = .returned (.tuple #[.string (B f.data), .int .i64 ((0 : Nat) : Int)]) ∧ Below V.heap.size V w') := Lib.hid fun V hV => C.read f.name f.data 0 (C.below HD.out (HBW.out.trans (Below.mono hV HBW.out.size))) HI.out hro (by omega) HRE.out
      have HRM : Hid (∀ V, KeptB wr V → Calls Tryz.prog 34 #[dP mp, .string (B f.name)] V fun x w' => x = .returned (.tuple #[.string (B f.data), .int .i64 ((0 : Nat) : Int)]) ∧ Below V.heap.size V w') := Lib.hid fun V hV => (D.mRead_l mp room l f.name f.data 0 V (HM.out.below (HBW.out.trans (Below.mono hV HBW.out.size))) HI.out.sorted (by omega) HRE).mono fun _ _ ⟨a, b⟩ => ⟨a, quietA b⟩
      have HSC : Hid (∀ V, KeptB wr V → Calls Tryz.prog 35 #[dP p, .string (B f.name)] V fun x w' => x = .returned (.int .i64 (f.syn : Int)) ∧ Below V.heap.size V w') := Lib.hid fun V hV => C.synced f.name f.syn (C.below HD.out (HBW.out.trans (Below.mono hV HBW.out.size))) HI.out hro (by omega) HSY.out
      have HSM : Hid (∀ V, KeptB wr V → Calls Tryz.prog 36 #[dP mp, .string (B f.name)] V fun x w' => x = .returned (.int .i64 (f.syn : Int)) ∧ Below V.heap.size V w') := Lib.hid fun V hV => (D.mSynced_l mp room l f.name f.syn V (HM.out.below (HBW.out.trans (Below.mono hV HBW.out.size))) HI.out.sorted (by omega) HSY).mono fun _ _ ⟨a, b⟩ => ⟨a, quietA b⟩
      have hS4 : P4A wr ⟨g, 0, none⟩ ⟨g, 1, none⟩ ⟨b1, o1 + j, none⟩ ⟨b2, o2 + j, none⟩ (dP p) (dP mp) (.string (B f.name)) (.string (B f.name)) wr := ⟨keepsA HBW.out _ _ HK0.out.1, keepsA HBW.out _ _ HK0.out.2, keepsA HBR.out _ _ G1.out, keepsA HBR.out _ _ G2.out, Below.refl _ _⟩
      clear HRE HSY G1 G2
      go_upto_region 8 with (fail)
      unfold P4A at hS4
      go_region_held3 (fun w' => w'.cell? ⟨g, 0, none⟩ = some (dP p) ∧ w'.cell? ⟨g, 1, none⟩ = some (dP mp) ∧ w'.cell? ⟨b1, o1 + j, none⟩ = some (.string (B f.name)) ∧ w'.cell? ⟨b2, o2 + j, none⟩ = some (.string (B f.name)) ∧ KeptB wr w')
        (first | assumption | exact P4A_drew (by assumption) | exact P4A_call (by assumption) (by assumption))
        (first | (go_at_call 33; with_reducible refine (HRC.out _ (And.right (And.right (And.right (And.right (by assumption)))))).mono ?_; rintro x w5 ⟨rfl, hb5⟩))
      rename_i hHeld8
      have HH8 := Lib.hid hHeld8
      clear hHeld8 hS4
      go_upto_region 9 with (fail)
      have hS5 := HH8.out
      go_region_held3 (fun w' => w'.cell? ⟨g, 0, none⟩ = some (dP p) ∧ w'.cell? ⟨g, 1, none⟩ = some (dP mp) ∧ w'.cell? ⟨b1, o1 + j, none⟩ = some (.string (B f.name)) ∧ w'.cell? ⟨b2, o2 + j, none⟩ = some (.string (B f.name)) ∧ KeptB wr w')
        (first | assumption | exact P4A_drew (by assumption) | exact P4A_call (by assumption) (by assumption))
        (first | (go_at_call 34; with_reducible refine (HRM.out _ (And.right (And.right (And.right (And.right (by assumption)))))).mono ?_; rintro x w6 ⟨rfl, hb6⟩))
      rename_i hHeld9
      have HH9 := Lib.hid hHeld9
      clear hHeld9 hS5 HH8
      go_upto_region 10 with (fail)
      have hS := HH9.out
      refine wp_region_held_drew (S := P4A wr ⟨g, 0, none⟩ ⟨g, 1, none⟩ ⟨b1, o1 + j, none⟩ ⟨b2, o2 + j, none⟩ (dP p) (dP mp) (.string (B f.name)) (.string (B f.name))) (by kernel_rfl) ?_ (fun hHeld => ?_)
      · exact P4A_drew hS
      refine take_wanted (i := 0) (v := ?_) rfl (by kernel_rfl) (by kernel_rfl) (by kernel_rfl) (fun _ _ _ h => h) (by rfl) ?_ (by assumption) ?_
      rotate_left
      · intro w hSw
        (try dsimp only at hSw)
        go_simp
        (try with_reducible rfl)
      simp only [Act.put, List.setIfInBounds_toArray, List.set_cons_zero, List.set_cons_succ]
      refine take_wanted (i := 1) (v := ?_) rfl (by kernel_rfl) (by kernel_rfl) (by kernel_rfl) (fun _ _ _ h => h) (by rfl) ?_ (by assumption) ?_
      rotate_left
      · intro w hSw
        (try dsimp only at hSw)
        go_simp
        (try with_reducible rfl)
      simp only [Act.put, List.setIfInBounds_toArray, List.set_cons_zero, List.set_cons_succ]
      refine take_wanted (i := 2) (v := ?_) rfl (by kernel_rfl) (by kernel_rfl) (by kernel_rfl) (fun _ _ _ h => h) (by rfl) ?_ (by assumption) ?_
      rotate_left
      · intro w hSw
        (try dsimp only at hSw)
        go_simp
        (try with_reducible rfl)
      simp only [Act.put, List.setIfInBounds_toArray, List.set_cons_zero, List.set_cons_succ]
      refine take_wanted (i := 3) (v := ?_) rfl (by kernel_rfl) (by kernel_rfl) (by kernel_rfl) (fun _ _ _ h => h) (by rfl) ?_ (by assumption) ?_
      rotate_left
      · intro w hSw
        (try dsimp only at hSw)
        go_simp
        (try with_reducible rfl)
      simp only [Act.put, List.setIfInBounds_toArray, List.set_cons_zero, List.set_cons_succ]
      refine take_wanted (i := 4) (v := ?_) rfl (by kernel_rfl) (by kernel_rfl) (by kernel_rfl) (fun _ _ _ h => h) (by rfl) ?_ (by assumption) ?_
      rotate_left
      · intro w hSw
        (try dsimp only at hSw)
        go_simp
        (try with_reducible rfl)
      simp only [Act.put, List.setIfInBounds_toArray, List.set_cons_zero, List.set_cons_succ]
      refine take_wanted (i := 5) (v := ?_) rfl (by kernel_rfl) (by kernel_rfl) (by kernel_rfl) (fun _ _ _ h => h) (by rfl) ?_ (by assumption) ?_
      rotate_left
      · intro w hSw
        (try dsimp only at hSw)
        go_simp
        (try with_reducible rfl)
      simp only [Act.put, List.setIfInBounds_toArray, List.set_cons_zero, List.set_cons_succ]
      refine take_wanted (i := 6) (v := ?_) rfl (by kernel_rfl) (by kernel_rfl) (by kernel_rfl) (fun _ _ _ h => h) (by rfl) ?_ (by assumption) ?_
      rotate_left
      · intro w hSw
        (try dsimp only at hSw)
        go_simp
        (try with_reducible rfl)
      simp only [Act.put, List.setIfInBounds_toArray, List.set_cons_zero, List.set_cons_succ]
      refine take_wanted (i := 7) (v := ?_) rfl (by kernel_rfl) (by kernel_rfl) (by kernel_rfl) (fun _ _ _ h => h) (by rfl) ?_ (by assumption) ?_
      rotate_left
      · intro w hSw
        (try dsimp only at hSw)
        go_simp
        (try with_reducible rfl)
      simp only [Act.put, List.setIfInBounds_toArray, List.set_cons_zero, List.set_cons_succ]
      refine take_wanted (i := 8) (v := .bool false) rfl (by kernel_rfl) (by kernel_rfl) (by kernel_rfl) (fun _ _ _ h => h) (by rfl) ?_ (by assumption) ?_
      · intro w hSw
        (try dsimp only at hSw)
        go_simp
        try simp
      simp only [Act.put, List.setIfInBounds_toArray, List.set_cons_zero, List.set_cons_succ]
      refine take_wanted (i := 9) (v := ?_) rfl (by kernel_rfl) (by kernel_rfl) (by kernel_rfl) (fun _ _ _ h => h) (by rfl) ?_ (by assumption) ?_
      rotate_left
      · intro w hSw
        (try dsimp only at hSw)
        go_simp
        (try with_reducible rfl)
      simp only [Act.put, List.setIfInBounds_toArray, List.set_cons_zero, List.set_cons_succ]
      refine take_wanted (i := 10) (v := ?_) rfl (by kernel_rfl) (by kernel_rfl) (by kernel_rfl) (fun _ _ _ h => h) (by rfl) ?_ (by assumption) ?_
      rotate_left
      · intro w hSw
        (try dsimp only at hSw)
        go_simp
        (try with_reducible rfl)
      simp only [Act.put, List.setIfInBounds_toArray, List.set_cons_zero, List.set_cons_succ]
      refine take_wanted (i := 11) (v := ?_) rfl (by kernel_rfl) (by kernel_rfl) (by kernel_rfl) (fun _ _ _ h => h) (by rfl) ?_ (by assumption) ?_
      rotate_left
      · intro w hSw
        (try dsimp only at hSw)
        go_simp
        (try with_reducible rfl)
      simp only [Act.put, List.setIfInBounds_toArray, List.set_cons_zero, List.set_cons_succ]
      refine take_wanted (i := 12) (v := .bool false) rfl (by kernel_rfl) (by kernel_rfl) (by kernel_rfl) (fun _ _ _ h => h) (by rfl) ?_ (by assumption) ?_
      · intro w hSw
        (try dsimp only at hSw)
        go_simp
        try simp
      simp only [Act.put, List.setIfInBounds_toArray, List.set_cons_zero, List.set_cons_succ]
      refine take_wanted (i := 13) (v := ?_) rfl (by kernel_rfl) (by kernel_rfl) (by kernel_rfl) (fun _ _ _ h => h) (by rfl) ?_ (by assumption) ?_
      rotate_left
      · intro w hSw
        (try dsimp only at hSw)
        go_simp
        (try with_reducible rfl)
      simp only [Act.put, List.setIfInBounds_toArray, List.set_cons_zero, List.set_cons_succ]
      refine take_wanted (i := 14) (v := ?_) rfl (by kernel_rfl) (by kernel_rfl) (by kernel_rfl) (fun _ _ _ h => h) (by rfl) ?_ (by assumption) ?_
      rotate_left
      · intro w hSw
        (try dsimp only at hSw)
        go_simp
        (try with_reducible rfl)
      simp only [Act.put, List.setIfInBounds_toArray, List.set_cons_zero, List.set_cons_succ]
      refine take_wanted (i := 15) (v := ?_) rfl (by kernel_rfl) (by kernel_rfl) (by kernel_rfl) (fun _ _ _ h => h) (by rfl) ?_ (by assumption) ?_
      rotate_left
      · intro w hSw
        (try dsimp only at hSw)
        go_simp
        (try with_reducible rfl)
      simp only [Act.put, List.setIfInBounds_toArray, List.set_cons_zero, List.set_cons_succ]
      refine take_wanted (i := 16) (v := ?_) rfl (by kernel_rfl) (by kernel_rfl) (by kernel_rfl) (fun _ _ _ h => h) (by rfl) ?_ (by assumption) ?_
      rotate_left
      · intro w hSw
        (try dsimp only at hSw)
        go_simp
        (try with_reducible rfl)
      simp only [Act.put, List.setIfInBounds_toArray, List.set_cons_zero, List.set_cons_succ]
      refine take_wanted (i := 17) (v := ?_) rfl (by kernel_rfl) (by kernel_rfl) (by kernel_rfl) (fun _ _ _ h => h) (by rfl) ?_ (by assumption) ?_
      rotate_left
      · intro w hSw
        (try dsimp only at hSw)
        go_simp
        (try with_reducible rfl)
      simp only [Act.put, List.setIfInBounds_toArray, List.set_cons_zero, List.set_cons_succ]
      refine take_wanted (i := 18) (v := ?_) rfl (by kernel_rfl) (by kernel_rfl) (by kernel_rfl) (fun _ _ _ h => h) (by rfl) ?_ (by assumption) ?_
      rotate_left
      · intro w hSw
        (try dsimp only at hSw)
        go_simp
        (try with_reducible rfl)
      simp only [Act.put, List.setIfInBounds_toArray, List.set_cons_zero, List.set_cons_succ]
      refine take_wanted (i := 19) (v := ?_) rfl (by kernel_rfl) (by kernel_rfl) (by kernel_rfl) (fun _ _ _ h => h) (by rfl) ?_ (by assumption) ?_
      rotate_left
      · intro w hSw
        (try dsimp only at hSw)
        go_simp
        (try with_reducible rfl)
      simp only [Act.put, List.setIfInBounds_toArray, List.set_cons_zero, List.set_cons_succ]
      refine take_wanted (i := 20) (v := ?_) rfl (by kernel_rfl) (by kernel_rfl) (by kernel_rfl) (fun _ _ _ h => h) (by rfl) ?_ (by assumption) ?_
      rotate_left
      · intro w hSw
        (try dsimp only at hSw)
        go_simp
        (try with_reducible rfl)
      simp only [Act.put, List.setIfInBounds_toArray, List.set_cons_zero, List.set_cons_succ]
      refine take_wanted (i := 22) (v := ?_) rfl (by kernel_rfl) (by kernel_rfl) (by kernel_rfl) (fun _ _ _ h => h) (by rfl) ?_ (by assumption) ?_
      rotate_left
      · intro w hSw
        (try dsimp only at hSw)
        go_simp
        (try with_reducible rfl)
      simp only [Act.put, List.setIfInBounds_toArray, List.set_cons_zero, List.set_cons_succ]
      refine take_wanted (i := 23) (v := ?_) rfl (by kernel_rfl) (by kernel_rfl) (by kernel_rfl) (fun _ _ _ h => h) (by rfl) ?_ (by assumption) ?_
      rotate_left
      · intro w hSw
        (try dsimp only at hSw)
        go_simp
        (try with_reducible rfl)
      simp only [Act.put, List.setIfInBounds_toArray, List.set_cons_zero, List.set_cons_succ]
      refine take_wanted (i := 24) (v := ?_) rfl (by kernel_rfl) (by kernel_rfl) (by kernel_rfl) (fun _ _ _ h => h) (by rfl) ?_ (by assumption) ?_
      rotate_left
      · intro w hSw
        (try dsimp only at hSw)
        go_simp
        (try with_reducible rfl)
      simp only [Act.put, List.setIfInBounds_toArray, List.set_cons_zero, List.set_cons_succ]
      refine take_wanted (i := 25) (v := ?_) rfl (by kernel_rfl) (by kernel_rfl) (by kernel_rfl) (fun _ _ _ h => h) (by rfl) ?_ (by assumption) ?_
      rotate_left
      · intro w hSw
        (try dsimp only at hSw)
        go_simp
        (try with_reducible rfl)
      simp only [Act.put, List.setIfInBounds_toArray, List.set_cons_zero, List.set_cons_succ]
      refine take_wanted (i := 26) (v := ?_) rfl (by kernel_rfl) (by kernel_rfl) (by kernel_rfl) (fun _ _ _ h => h) (by rfl) ?_ (by assumption) ?_
      rotate_left
      · intro w hSw
        (try dsimp only at hSw)
        go_simp
        (try with_reducible rfl)
      simp only [Act.put, List.setIfInBounds_toArray, List.set_cons_zero, List.set_cons_succ]
      refine take_wanted (i := 27) (v := ?_) rfl (by kernel_rfl) (by kernel_rfl) (by kernel_rfl) (fun _ _ _ h => h) (by rfl) ?_ (by assumption) ?_
      rotate_left
      · intro w hSw
        (try dsimp only at hSw)
        go_simp
        (try with_reducible rfl)
      simp only [Act.put, List.setIfInBounds_toArray, List.set_cons_zero, List.set_cons_succ]
      refine take_only (i := 21) (by kernel_rfl) rfl (by rfl) (fun K hK => ?_)
      go_simp
      go_at_call 35
      refine (HSC.out _ hHeld.2.2.2.2).mono ?_
      rintro x w9 ⟨rfl, hb9⟩
      refine hK.out _ _ ?_ (fun hHeld => ?_)
      · exact P4A_call hHeld hb9
      clear hK K
      refine take_only (i := 28) (by kernel_rfl) rfl (by rfl) (fun K hK => ?_)
      go_simp
      go_at_call 36
      refine (HSM.out _ hHeld.2.2.2.2).mono ?_
      rintro x w10 ⟨rfl, hb10⟩
      refine hK.out _ _ ?_ (fun hHeld => ?_)
      · exact P4A_call hHeld hb10
      clear hK K
      refine take_wanted (i := 29) (v := .bool false) rfl (by kernel_rfl) (by kernel_rfl) (by kernel_rfl) (fun _ _ _ h => h) (by rfl) ?_ (by assumption) ?_
      · intro w hSw
        (try dsimp only at hSw)
        go_simp
        try simp
      simp only [Act.put, List.setIfInBounds_toArray, List.set_cons_zero, List.set_cons_succ]
      refine take_wanted (i := 30) (v := ?_) rfl (by kernel_rfl) (by kernel_rfl) (by kernel_rfl) (fun _ _ _ h => h) (by rfl) ?_ (by assumption) ?_
      rotate_left
      · intro w hSw
        (try dsimp only at hSw)
        go_simp
        (try with_reducible rfl)
      simp only [Act.put, List.setIfInBounds_toArray, List.set_cons_zero, List.set_cons_succ]
      refine wpAnyH_done (by kernel_rfl) ?_ _
      have HB7 := Lib.hid (Below.trans HBR.out (Below.mono hHeld.2.2.2.2 HBR.out.size))
      clear hHeld hS
      go_wp2
      go_roundw
      case rel => exact ⟨j + 1, by go_num, by omega, HB7.out⟩
      case measure => simp [intOf]; omega
    · have hj1 : ¬ (j : Int) < (l.length : Int) := by omega
      have HB9 := Lib.hid (HB0.out.trans (Below.mono (HB4.out.trans (Below.mono HBR.out HB4.out.size)) HB0.out.size))
      go_wp2
      go_ret
      exact ⟨rfl, HB9.out⟩
end Go.Proofs.YtmfhipjceeijmaaGreat.A

/-
  Chapter 10's helpers small and goes, over a disk and the document's side by side.
-/
namespace Go.Proofs.YtmfhipjceeijmaaGreat.A
open Go.RowKit
open D (Tx ReadsI i64B readsI_below dP MAt F)
attribute [local go_sem] ext_Bd ext_Bl ext_Bt toList_B add_B size_B get_Bt

theorem Names.put {l : List F} {f : F} (h : Names l) (hf : f.name.length ≤ 1000) : Names (D.put f l) := fun g hg => by
  rcases D.mem_put hg with rfl | hg
  · exact hf
  · exact h g hg
theorem Names.del {l : List F} {n : Tx} (h : Names l) : Names (D.del n l) := fun g hg => h g (D.mem_del hg).1
theorem Names.crash {l : List F} {ks : List Int} (h : Names l) : Names (D.crash ks l) := fun g hg => by
  obtain ⟨k, f, hf, rfl⟩ := D.mem_crash hg
  exact h f hf
theorem Names.append {room : Nat} {n s : Tx} {l : List F} (h : Names l) (hn : n.length ≤ 1000) : Names (D.append room n s l).2 := by
  unfold D.append
  split
  · exact h
  split
  · exact h
  split
  · exact h
  dsimp only
  refine h.put ?_
  cases D.find n l <;> exact hn
theorem Names.sync {n : Tx} {l : List F} (h : Names l) (hn : n.length ≤ 1000) : Names (D.sync n l).2 := by
  unfold D.sync
  cases D.find n l with
  | none => exact h
  | some f => exact h.put hn
theorem Names.delete {n : Tx} {l : List F} (h : Names l) : Names (D.delete n l).2 := by
  unfold D.delete
  cases D.find n l with
  | none => exact h
  | some f => exact h.del
theorem Names.replace {room : Nat} {nm pl : Tx} {l : List F} (h : Names l) (hn : nameL nm = true) (hn2 : nm.length ≤ 1000) : Names (replaceD room nm pl l).2 := by
  rcases replace_is (room := room) (p := pl) l hn with ⟨-, h2⟩ | ⟨-, h2⟩
  · rw [h2]; exact h.del.put hn2
  · rw [h2]; exact h.del
theorem Names.save {room : Nat} {next : Int} {segs : List Int} {l : List F} (h : Names l) : Names (saveD room next segs l).2 := by
  unfold saveD
  split
  · exact h.replace (by decide +kernel) (by simp [fileN])
  · exact h
theorem Names.raise {room : Nat} {z : Int} {l : List F} (h : Names l) : Names (raiseD room z l).2 := by
  have hk : Names (keepD room z.toNat l).2 := by
    unfold keepD
    split
    · exact h.append (by simp [markN])
    · exact h.replace mark_name (by simp [markN])
  unfold raiseD
  split
  · exact h
  split
  · exact h
  split
  · split
    · exact hk.sync (by simp [markN])
    · exact hk
  · exact h.sync (by simp [markN])
/-- What an act does: the error, the files behind. -/
def nmK (k : Nat) : Tx := if k = 0 then fileN else if k = 1 then markN else temp
theorem nmK_len (k : Nat) : (nmK k).length ≤ 14 := by
  unfold nmK
  split
  · simp [fileN]
  split
  · simp [markN]
  · simp [temp]
/-- Where both disks stand. -/
structure PSA (C : D.DC) (w : World) (p mp room : Nat) (wr : World) (l : List F) (S : Nat → Prop) : Prop where
  at_ : C.At w.heap.size wr p room l S
  mat : MAt w.heap.size wr mp (room : Int) l
  inv : D.Inv room l
  nam : Names l
  bel : Below w.heap.size w wr
  off : ¬ S mp
section
variable {C : D.DC} {w : World} {p mp room : Nat} {wr w' : World} {l l2 : List F} {S S2 : Nat → Prop}
theorem PSA.lo (h : PSA C w p mp room wr l S) : ∀ k, S k → w.heap.size ≤ k := fun _ hk => (C.low h.at_ hk).1
theorem PSA.below (h : PSA C w p mp room wr l S) (hb : Below wr.heap.size wr w') : PSA C w p mp room w' l S :=
  ⟨C.below h.at_ hb, h.mat.below hb, h.inv, h.nam, h.bel.trans (hb.mono h.bel.size), h.off⟩
theorem PSA.drew (h : PSA C w p mp room wr l S) : PSA C w p mp room wr.drew l S := h.below ⟨rfl, rfl, rfl, Nat.le_refl _, fun _ _ => rfl⟩
/-- The landed disk is through with a call, the document's has it ahead. -/
structure MidA (C : D.DC) (w : World) (p mp room : Nat) (wr : World) (l l2 : List F) (S : Nat → Prop) : Prop where
  at_ : C.At w.heap.size wr p room l2 S
  mat : MAt w.heap.size wr mp (room : Int) l
  inv : D.Inv room l
  bel : Below w.heap.size w wr
  off : ¬ S mp
theorem PSA.mid (h : PSA C w p mp room wr l S) (hd : C.At w.heap.size w' p room l2 S2) (hg : D.Grow S wr S2) (hb : D.But S wr w') : MidA C w p mp room w' l l2 S2 :=
  ⟨hd, MAt_but h.mat hb h.off fun _ _ _ hk => C.typ h.at_ hk, h.inv, but_low h.bel hb h.lo, offA hg (MAt_lt h.mat) h.off⟩
theorem MidA.done (h : MidA C w p mp room wr l l2 S) (hm : MAt w.heap.size w' mp (room : Int) l2) (hk : D.Kp w.heap.size mp wr w') (hi : D.Inv room l2) (hn : Names l2) : PSA C w p mp room w' l2 S :=
  ⟨DC_kp C h.at_ hk h.off, hm, hi, hn, Kp_low rfl h.bel hk, h.off⟩
theorem MidA.drew (h : MidA C w p mp room wr l l2 S) : MidA C w p mp room wr.drew l l2 S :=
  ⟨C.below h.at_ ⟨rfl, rfl, rfl, Nat.le_refl _, fun _ _ => rfl⟩, h.mat.below ⟨rfl, rfl, rfl, Nat.le_refl _, fun _ _ => rfl⟩, h.inv, ⟨h.bel.os, h.bel.tape, h.bel.output, h.bel.size, h.bel.block⟩, h.off⟩
end
/-- The blocks of a call of goes: the pair and the act. -/
structure QB (g2 g3 p mp : Nat) (op n : Int) (vs : Value) (t : Tx) (vk : Value) (w : World) : Prop where
  b2 : w.heap[g2]? = some (.cells #[dP p, dP mp] 28 (0, 0))
  b3 : w.heap[g3]? = some (.cells #[.int .i64 op, .int .i64 n, vs, .string (B t), vk] 35 (0, 0))
section
variable {g2 g3 p mp bs : Nat} {op n : Int} {vs : Value} {t : Tx} {vk : Value} {w w' : World} {S : Nat → Prop}
theorem QB.but (h : QB g2 g3 p mp op n vs t vk w) (hb : D.But S w w') (h2 : ¬ S g2) (h3 : ¬ S g3) : QB g2 g3 p mp op n vs t vk w' :=
  ⟨(hb.block _ (lt_of_block h.b2) h2).trans h.b2, (hb.block _ (lt_of_block h.b3) h3).trans h.b3⟩
theorem QB.kp (h : QB g2 g3 p mp op n vs t vk w) (hb : D.Kp bs mp w w') (h2 : g2 ≠ mp) (h3 : g3 ≠ mp) : QB g2 g3 p mp op n vs t vk w' :=
  ⟨hb.block _ _ h.b2 (.inr ⟨h2, fun c fr e => by injection e with _ e2; exact absurd e2 (by decide)⟩), hb.block _ _ h.b3 (.inr ⟨h3, fun c fr e => by injection e with _ e2; exact absurd e2 (by decide)⟩)⟩
theorem QB.drew (h : QB g2 g3 p mp op n vs t vk w) : QB g2 g3 p mp op n vs t vk w.drew := ⟨h.b2, h.b3⟩
theorem QB.below (h : QB g2 g3 p mp op n vs t vk w) (hb : Below w.heap.size w w') : QB g2 g3 p mp op n vs t vk w' :=
  ⟨(hb.block _ (lt_of_block h.b2)).trans h.b2, (hb.block _ (lt_of_block h.b3)).trans h.b3⟩
abbrev Q8 (g2 g3 p mp : Nat) (op n : Int) (vs : Value) (t : Tx) (vk : Value) (w : World) : Prop :=
  w.cell? ⟨g2, 0, none⟩ = some (dP p) ∧ w.cell? ⟨g2, 1, none⟩ = some (dP mp) ∧ w.cell? ⟨g3, 1, none⟩ = some (.int .i64 n) ∧ w.cell? ⟨g3, 2, none⟩ = some vs ∧ w.cell? ⟨g3, 3, none⟩ = some (.string (B t)) ∧ w.cell? ⟨g3, 4, none⟩ = some vk ∧ QB g2 g3 p mp op n vs t vk w
theorem QB.q8 (h : QB g2 g3 p mp op n vs t vk w) : Q8 g2 g3 p mp op n vs t vk w :=
  ⟨by rw [blkA h.b2]; rfl, by rw [blkA h.b2]; rfl, by rw [blkA h.b3]; rfl, by rw [blkA h.b3]; rfl, by rw [blkA h.b3]; rfl, by rw [blkA h.b3]; rfl, h⟩
theorem Q8_drew (h : Q8 g2 g3 p mp op n vs t vk w) : Q8 g2 g3 p mp op n vs t vk w.drew := h.2.2.2.2.2.2.drew.q8
end
/-- What a call of goes leaves: all blocks that are none of either disk's. -/
def Rest (S : Nat → Prop) (mp : Nat) (S2 : Nat → Prop) (w w' : World) : Prop :=
  (∀ (k : Nat) (o : Obj), w.heap[k]? = some o → ¬ S k → k ≠ mp → (∀ c fr, o ≠ .cells c 101 fr) → w'.heap[k]? = some o) ∧ (∀ k, S2 k → S k ∨ w.heap.size ≤ k)
theorem rest_of {w w5 w7 w9 : World} {S S7 : Nat → Prop} {mp bs n : Nat} (hn : w.heap.size = n) (hB : Below n w w5) (hb : D.But S w5 w7) (hg : D.Grow S w5 S7) (hk : D.Kp bs mp w7 w9) : Rest S mp S7 w w9 := by
  subst hn
  refine ⟨fun k o ho hs hm ht => ?_, fun k h => (hg k h).imp id fun h2 => Nat.le_trans hB.size h2⟩
  have hlt := lt_of_block ho
  refine hk.block k o ?_ (.inr ⟨hm, ht⟩)
  rw [hb.block k (Nat.lt_of_lt_of_le hlt hB.size) hs, hB.block k hlt]
  exact ho
set_option maxHeartbeats 2000000 in
set_option maxRecDepth 100000 in
theorem small10_l (acs : List Ac) (v : Value) (w : World) (hv : ReadsA w v acs) :
    Calls Tryz.prog 5 #[v] w fun x w' => (x = .returned (.bool false) ∨ (x = .returned (.bool true) ∧ acs.length ≤ 60 ∧ ∀ i (h : i < acs.length), acs[i].segs.length ≤ 60 ∧ acs[i].text.length ≤ 1000 ∧ acs[i].keep.length ≤ 30)) ∧ w' = w := by
  obtain ⟨a, cap, rfl, hx⟩ := hv
  have HX := Lib.hid hx
  clear hx
  by_cases hl : 60 < acs.length
  · have hli : (60 : Int) < (acs.length : Int) := by omega
    go_enter Tryz.func5, Tryz.ntmps5
    go_wp2
    go_ret
    exact ⟨.inl rfl, rfl⟩
  have hli : ¬ (60 : Int) < (acs.length : Int) := by omega
  go_enter Tryz.func5, Tryz.ntmps5
  go_wp2
  go_loopw [3] (fun i wr => ∃ k : Nat, i = .int .i64 k ∧ k ≤ acs.length ∧ Hid (∀ i (h : i < acs.length), i < k → acs[i].segs.length ≤ 60 ∧ acs[i].text.length ≤ 1000 ∧ acs[i].keep.length ≤ 30) ∧ w = wr) (fun i _ => acs.length - (intOf i).toNat)
  case atStart => exact ⟨0, rfl, Nat.zero_le _, Lib.hid fun i h h0 => absurd h0 (by omega), rfl⟩
  case round =>
    obtain ⟨k, rfl, hk, HK, rfl⟩ := hrel
    by_cases hlt : k < acs.length
    · have hi1 : (k : Int) < (acs.length : Int) := by omega
      obtain ⟨⟨hs, hkp, -, -, ht⟩, bb, off, rfl, c0, c1, c2, c3, c4⟩ := HX.out k hlt
      obtain ⟨sa, sc, hsv, -⟩ := hs
      obtain ⟨ka, kc, hkv, -⟩ := hkp
      rw [hsv] at c2
      rw [hkv] at c4
      have HNX : Hid (acs[k].segs.length ≤ 60 ∧ acs[k].text.length ≤ 1000 ∧ acs[k].keep.length ≤ 30 → ∀ i (h : i < acs.length), i < k + 1 → acs[i].segs.length ≤ 60 ∧ acs[i].text.length ≤ 1000 ∧ acs[i].keep.length ≤ 30) := Lib.hid fun h i hi hik => by
        by_cases e : i = k
        · subst e; exact h
        · exact HK.out i hi (by omega)
      clear HK hsv hkv
      generalize acs[k] = ac at *
      by_cases h1 : 60 < ac.segs.length
      · have h1i : (60 : Int) < (ac.segs.length : Int) := by omega
        go_wp2
        go_ret
        exact ⟨.inl rfl, rfl⟩
      have h1i : ¬ (60 : Int) < (ac.segs.length : Int) := by omega
      by_cases h2 : 1000 < ac.text.length
      · have h2i : (1000 : Int) < (ac.text.length : Int) := by omega
        go_wp2
        go_ret
        exact ⟨.inl rfl, rfl⟩
      have h2i : ¬ (1000 : Int) < (ac.text.length : Int) := by omega
      by_cases h3 : 30 < ac.keep.length
      · have h3i : (30 : Int) < (ac.keep.length : Int) := by omega
        go_wp2
        go_ret
        exact ⟨.inl rfl, rfl⟩
      have h3i : ¬ (30 : Int) < (ac.keep.length : Int) := by omega
      have HN2 := Lib.hid (HNX.out ⟨by omega, by omega, by omega⟩)
      go_wp2
      go_roundw
      case rel => exact ⟨k + 1, by go_num, by omega, HN2, by first | trivial | rfl⟩
      case measure => simp [intOf]; omega
    · have HE := Lib.hid fun (i : Nat) (h : i < acs.length) => HK.out i h (by omega)
      go_wp2
      go_ret
      exact ⟨.inr ⟨rfl, by omega, HE.out⟩, rfl⟩
set_option maxHeartbeats 16000000 in
set_option maxRecDepth 100000 in
theorem goes10_l (C : D.DC) {w0 : World} (p mp room : Nat) (op n : Int) (segs : List Int) (sa : Option Addr) (sc : Nat) (text : Tx) (keep : List Int) (ka : Option Addr) (kc : Nat) (w : World) (l : List F) (S : Nat → Prop) (h : PSA C w0 p mp room w l S) (hro : room ≤ 100000) (hop : i64B op) (hn : i64B n) (hs : ReadsI w0 (.slice sa segs.length sc) segs) (hk : ReadsI w0 (.slice ka keep.length kc) keep) (hsl : segs.length ≤ 60) (htl : text.length ≤ 1000) (hkl : keep.length ≤ 30) :
    Calls Tryz.prog 8 #[.agg #[dP p, dP mp], .agg #[.int .i64 op, .int .i64 n, .slice sa segs.length sc, .string (B text), .slice ka keep.length kc]] w fun x w' => x = .returned (.bool true) ∧ ∃ l2 S2, PSA C w0 p mp room w' l2 S2 ∧ Rest S mp S2 w w' := by
  obtain ⟨kf, hkf⟩ : ∃ kf, pickN n 3 = kf := ⟨_, rfl⟩
  obtain ⟨kd, hkd⟩ : ∃ kd, pickN op 7 = kd := ⟨_, rfl⟩
  have hkf3 : kf < 3 := by rw [← hkf]; exact pickN_lt _ (by omega)
  have hkd7 : kd < 7 := by rw [← hkd]; exact pickN_lt _ (by omega)
  have HKF := Lib.hid hkf
  have HKD := Lib.hid hkd
  have HS := Lib.hid hs
  have HK := Lib.hid hk
  have hB1 := (Below.refl w.heap.size w).alloc (Nat.le_refl _) (.cells #[dP p, dP mp] 28)
  have hB2 := (Below.refl (w.alloc (.cells #[dP p, dP mp] 28)).heap.size (w.alloc (.cells #[dP p, dP mp] 28))).alloc (Nat.le_refl _) (.cells #[.int .i64 op, .int .i64 n, .slice sa segs.length sc, .string (B text), .slice ka keep.length kc] 35)
  have HPS := Lib.hid ((h.below hB1).below hB2)
  have HBW := Lib.hid (hB1.trans (hB2.mono hB1.size))
  have HQB : Hid (QB w.heap.size (w.heap.size + 1) p mp op n (.slice sa segs.length sc) text (.slice ka keep.length kc) ((w.alloc (.cells #[dP p, dP mp] 28)).alloc (.cells #[.int .i64 op, .int .i64 n, .slice sa segs.length sc, .string (B text), .slice ka keep.length kc] 35))) := Lib.hid ⟨by
    rw [Below.heap_alloc _ _ _ (by simp)]
    exact heap_alloc_new w _, by
    have := heap_alloc_new (w.alloc (.cells #[dP p, dP mp] 28)) (.cells #[.int .i64 op, .int .i64 n, .slice sa segs.length sc, .string (B text), .slice ka keep.length kc] 35)
    rwa [World.size_alloc] at this⟩
  have HN2 : Hid (¬ S w.heap.size ∧ ¬ S (w.heap.size + 1)) := Lib.hid ⟨fun h2 => by have := (C.low h.at_ h2).2; omega, fun h2 => by have := (C.low h.at_ h2).2; omega⟩
  have HNM : Hid (w.heap.size ≠ mp ∧ w.heap.size + 1 ≠ mp) := Lib.hid (by have := MAt_lt h.mat; omega)
  clear h hs hk hkf hkd hB1 hB2
  go_enter Tryz.func8, Tryz.ntmps8
  go_upto_region 1 with (fail)
  generalize (w.alloc (.cells #[dP p, dP mp] 28)).alloc (.cells #[.int .i64 op, .int .i64 n, .slice sa segs.length sc, .string (B text), .slice ka keep.length kc] 35) = W at *
  have hg3 : w.heap.size + 1 = w.heap.size + 1 := rfl
  obtain ⟨g3, hg3e⟩ : ∃ g3, w.heap.size + 1 = g3 := ⟨_, rfl⟩
  rw [hg3e] at HQB HN2 HNM
  rw [hg3e]
  generalize hg2e : w.heap.size = g2 at *
  have HG2 := Lib.hid hg2e
  clear hg2e
  clear hg3 hg3e
  have y1 := HQB.out.q8.2.2.1
  have y0 : W.cell? ⟨g3, 0, none⟩ = some (.int .i64 op) := by rw [blkA HQB.out.b3]; rfl
  have hal := (Below.refl W.heap.size W).alloc (Nat.le_refl _) (.cells #[.string ⟨#[109, 97, 110, 105, 102, 101, 115, 116]⟩, .string ⟨#[101, 112, 111, 99, 104]⟩, .string ⟨#[116, 101, 109, 112]⟩] 9)
  have HL4 := Lib.hid (heap_alloc_new W (.cells #[.string ⟨#[109, 97, 110, 105, 102, 101, 115, 116]⟩, .string ⟨#[101, 112, 111, 99, 104]⟩, .string ⟨#[116, 101, 109, 112]⟩] 9))
  have HPS4 := Lib.hid (HPS.out.below hal)
  have HQ4 := Lib.hid (HQB.out.below hal)
  have HB4 := Lib.hid (belowT HBW.out hal (by have := HBW.out.size; have := HG2.out; omega))
  have z1 := HQ4.out.q8.2.2.1
  have z0 : (W.alloc (.cells #[.string ⟨#[109, 97, 110, 105, 102, 101, 115, 116]⟩, .string ⟨#[101, 112, 111, 99, 104]⟩, .string ⟨#[116, 101, 109, 112]⟩] 9)).cell? ⟨g3, 0, none⟩ = some (.int .i64 op) := by rw [blkA HQ4.out.b3]; rfl
  clear y0 y1 hal HPS HQB HBW
  go_wp2_with fail
  generalize W.alloc (.cells #[.string ⟨#[109, 97, 110, 105, 102, 101, 115, 116]⟩, .string ⟨#[101, 112, 111, 99, 104]⟩, .string ⟨#[116, 101, 109, 112]⟩] 9) = W4 at *
  generalize W.heap.size = g4 at *
  refine (pick10_l n 3 kf W4 hn (by omega) (by omega) HKF).mono ?_
  rintro x W5 ⟨rfl, rfl⟩
  have hkf0 : (0 : Int) ≤ (kf : Int) := by omega
  have hkf4 : (kf : Int) < 3 := by omega
  have s0 : W5.cell? ⟨g4, 0 + kf, none⟩ = some (.string (B (nmK kf))) := by
    rw [Nat.zero_add, blkA HL4.out]
    match kf, hkf3 with
    | 0, _ => rfl
    | 1, _ => rfl
    | 2, _ => rfl
  have s1 : W5.cell? ⟨g4, kf, none⟩ = some (.string (B (nmK kf))) := by rw [Nat.zero_add] at s0; exact s0
  obtain ⟨nm, hnm⟩ : ∃ nm, nmK kf = nm := ⟨_, rfl⟩
  have hnl : nm.length ≤ 14 := by rw [← hnm]; exact nmK_len kf
  rw [hnm] at s0 s1
  clear hnm HL4
  go_wp2_with fail
  refine (pick10_l op 7 kd W5 hop (by omega) (by omega) HKD).mono ?_
  rintro x W6 ⟨rfl, rfl⟩
  clear s0 s1 z0 z1
  have hro2 : room ≤ 1073741824 := by omega
  have hro3 : room ≤ 100000000 := by omega
  obtain hd | hd | hd | hd | hd | hd | hd : kd = 0 ∨ kd = 1 ∨ kd = 2 ∨ kd = 3 ∨ kd = 4 ∨ kd = 5 ∨ kd = 6 := by omega
  · subst hd
    obtain ⟨⟨e9, l9⟩, hact⟩ : ∃ q, saveD room n segs l = q := ⟨_, rfl⟩
    have HACT := Lib.hid hact
    have HI9 := Lib.hid (show D.Inv room l9 by have := save_inv (next := n) (segs := segs) HPS4.out.inv; rw [hact] at this; exact this)
    have HN9 := Lib.hid (show Names l9 by have := HPS4.out.nam.save (room := room) (next := n) (segs := segs); rw [hact] at this; exact this)
    clear hact
    have hS := HQ4.out.q8
    go_upto_region 5 with (fail)
    refine wp_region_held_drew (S := Q8 g2 g3 p mp op n (.slice sa segs.length sc) text (.slice ka keep.length kc)) (by kernel_rfl) ?_ (fun hHeld => ?_)
    · exact Q8_drew hS
    refine take_wanted (i := 0) (v := ?_) rfl (by kernel_rfl) (by kernel_rfl) (by kernel_rfl) (fun _ _ _ h => h) (by rfl) ?_ (by assumption) ?_
    rotate_left
    · intro w hSw
      (try dsimp only at hSw)
      go_simp
      (try with_reducible rfl)
    simp only [Act.put, List.setIfInBounds_toArray, List.set_cons_zero, List.set_cons_succ]
    refine take_wanted (i := 1) (v := ?_) rfl (by kernel_rfl) (by kernel_rfl) (by kernel_rfl) (fun _ _ _ h => h) (by rfl) ?_ (by assumption) ?_
    rotate_left
    · intro w hSw
      (try dsimp only at hSw)
      go_simp
      (try with_reducible rfl)
    simp only [Act.put, List.setIfInBounds_toArray, List.set_cons_zero, List.set_cons_succ]
    refine take_wanted (i := 2) (v := ?_) rfl (by kernel_rfl) (by kernel_rfl) (by kernel_rfl) (fun _ _ _ h => h) (by rfl) ?_ (by assumption) ?_
    rotate_left
    · intro w hSw
      (try dsimp only at hSw)
      go_simp
      (try with_reducible rfl)
    simp only [Act.put, List.setIfInBounds_toArray, List.set_cons_zero, List.set_cons_succ]
    refine take_wanted (i := 3) (v := ?_) rfl (by kernel_rfl) (by kernel_rfl) (by kernel_rfl) (fun _ _ _ h => h) (by rfl) ?_ (by assumption) ?_
    rotate_left
    · intro w hSw
      (try dsimp only at hSw)
      go_simp
      (try with_reducible rfl)
    simp only [Act.put, List.setIfInBounds_toArray, List.set_cons_zero, List.set_cons_succ]
    refine take_wanted (i := 4) (v := ?_) rfl (by kernel_rfl) (by kernel_rfl) (by kernel_rfl) (fun _ _ _ h => h) (by rfl) ?_ (by assumption) ?_
    rotate_left
    · intro w hSw
      (try dsimp only at hSw)
      go_simp
      (try with_reducible rfl)
    simp only [Act.put, List.setIfInBounds_toArray, List.set_cons_zero, List.set_cons_succ]
    refine take_wanted (i := 5) (v := ?_) rfl (by kernel_rfl) (by kernel_rfl) (by kernel_rfl) (fun _ _ _ h => h) (by rfl) ?_ (by assumption) ?_
    rotate_left
    · intro w hSw
      (try dsimp only at hSw)
      go_simp
      (try with_reducible rfl)
    simp only [Act.put, List.setIfInBounds_toArray, List.set_cons_zero, List.set_cons_succ]
    refine take_wanted (i := 6) (v := ?_) rfl (by kernel_rfl) (by kernel_rfl) (by kernel_rfl) (fun _ _ _ h => h) (by rfl) ?_ (by assumption) ?_
    rotate_left
    · intro w hSw
      (try dsimp only at hSw)
      go_simp
      (try with_reducible rfl)
    simp only [Act.put, List.setIfInBounds_toArray, List.set_cons_zero, List.set_cons_succ]
    refine take_wanted (i := 8) (v := ?_) rfl (by kernel_rfl) (by kernel_rfl) (by kernel_rfl) (fun _ _ _ h => h) (by rfl) ?_ (by assumption) ?_
    rotate_left
    · intro w hSw
      (try dsimp only at hSw)
      go_simp
      (try with_reducible rfl)
    simp only [Act.put, List.setIfInBounds_toArray, List.set_cons_zero, List.set_cons_succ]
    refine take_wanted (i := 9) (v := ?_) rfl (by kernel_rfl) (by kernel_rfl) (by kernel_rfl) (fun _ _ _ h => h) (by rfl) ?_ (by assumption) ?_
    rotate_left
    · intro w hSw
      (try dsimp only at hSw)
      go_simp
      (try with_reducible rfl)
    simp only [Act.put, List.setIfInBounds_toArray, List.set_cons_zero, List.set_cons_succ]
    refine take_wanted (i := 10) (v := ?_) rfl (by kernel_rfl) (by kernel_rfl) (by kernel_rfl) (fun _ _ _ h => h) (by rfl) ?_ (by assumption) ?_
    rotate_left
    · intro w hSw
      (try dsimp only at hSw)
      go_simp
      (try with_reducible rfl)
    simp only [Act.put, List.setIfInBounds_toArray, List.set_cons_zero, List.set_cons_succ]
    refine take_wanted (i := 11) (v := ?_) rfl (by kernel_rfl) (by kernel_rfl) (by kernel_rfl) (fun _ _ _ h => h) (by rfl) ?_ (by assumption) ?_
    rotate_left
    · intro w hSw
      (try dsimp only at hSw)
      go_simp
      (try with_reducible rfl)
    simp only [Act.put, List.setIfInBounds_toArray, List.set_cons_zero, List.set_cons_succ]
    refine take_wanted (i := 12) (v := ?_) rfl (by kernel_rfl) (by kernel_rfl) (by kernel_rfl) (fun _ _ _ h => h) (by rfl) ?_ (by assumption) ?_
    rotate_left
    · intro w hSw
      (try dsimp only at hSw)
      go_simp
      (try with_reducible rfl)
    simp only [Act.put, List.setIfInBounds_toArray, List.set_cons_zero, List.set_cons_succ]
    refine take_wanted (i := 13) (v := ?_) rfl (by kernel_rfl) (by kernel_rfl) (by kernel_rfl) (fun _ _ _ h => h) (by rfl) ?_ (by assumption) ?_
    rotate_left
    · intro w hSw
      (try dsimp only at hSw)
      go_simp
      (try with_reducible rfl)
    simp only [Act.put, List.setIfInBounds_toArray, List.set_cons_zero, List.set_cons_succ]
    refine take_wanted (i := 14) (v := ?_) rfl (by kernel_rfl) (by kernel_rfl) (by kernel_rfl) (fun _ _ _ h => h) (by rfl) ?_ (by assumption) ?_
    rotate_left
    · intro w hSw
      (try dsimp only at hSw)
      go_simp
      (try with_reducible rfl)
    simp only [Act.put, List.setIfInBounds_toArray, List.set_cons_zero, List.set_cons_succ]
    refine take_only (i := 7) (by kernel_rfl) rfl (by rfl) (fun K hK => ?_)
    go_simp
    go_at_call 20
    refine (Save_l C n segs _ e9 l9 HPS4.out.drew.at_ HPS4.out.inv hro3 (fun _ hb => readsI_below HS.out (but_low HPS4.out.drew.bel hb HPS4.out.drew.lo)) HACT.out).mono ?_
    rintro x w7 ⟨rfl, ⟨S7, hA7, hg7⟩, hb7⟩; have hmid := Lib.hid (HPS4.out.drew.mid hA7 hg7 hb7)
    refine hK.out _ _ ?_ (fun hHeld => ?_)
    · exact (hHeld.2.2.2.2.2.2.but hb7 HN2.out.1 HN2.out.2).q8
    clear hK K
    refine take_only (i := 15) (by kernel_rfl) rfl (by rfl) (fun K hK => ?_)
    go_simp
    go_at_call 21
    refine (rSave_l n segs _ e9 l9 _ hmid.out.mat hmid.out.inv hro3 (readsI_below HS.out hmid.out.bel) (by omega) HACT.out).mono ?_
    rintro x w9 ⟨rfl, hm9, hk9⟩
    refine hK.out _ _ ?_ (fun hHeld => ?_)
    · exact (hHeld.2.2.2.2.2.2.kp hk9 HNM.out.1 HNM.out.2).q8
    clear hK K
    refine take_wanted (i := 16) (v := .bool true) rfl (by kernel_rfl) (by kernel_rfl) (by kernel_rfl) (fun _ _ _ h => h) (by rfl) ?_ (by assumption) ?_
    · intro w hSw
      (try dsimp only at hSw)
      go_simp
      try simp
    simp only [Act.put, List.setIfInBounds_toArray, List.set_cons_zero, List.set_cons_succ]
    refine take_wanted (i := 17) (v := ?_) rfl (by kernel_rfl) (by kernel_rfl) (by kernel_rfl) (fun _ _ _ h => h) (by rfl) ?_ (by assumption) ?_
    rotate_left
    · intro w hSw
      (try dsimp only at hSw)
      go_simp
      (try with_reducible rfl)
    simp only [Act.put, List.setIfInBounds_toArray, List.set_cons_zero, List.set_cons_succ]
    refine wpAnyH_done (by kernel_rfl) ?_ _
    have HPS9 := Lib.hid (hmid.out.done hm9 hk9 HI9.out HN9.out)
    have HRS9 := Lib.hid (rest_of HG2.out HB4.out.drew hb7 hg7 hk9)
    clear hHeld hS
    go_wp2
    go_ret
    exact ⟨rfl, l9, S7, HPS9.out, HRS9.out⟩
  · subst hd
    obtain ⟨⟨e9, l9⟩, hact⟩ : ∃ q, saveD room n segs l = q := ⟨_, rfl⟩
    have HACT := Lib.hid hact
    have HI9 := Lib.hid (show D.Inv room l9 by have := save_inv (next := n) (segs := segs) HPS4.out.inv; rw [hact] at this; exact this)
    have HN9 := Lib.hid (show Names l9 by have := HPS4.out.nam.save (room := room) (next := n) (segs := segs); rw [hact] at this; exact this)
    clear hact
    have hS := HQ4.out.q8
    go_upto_region 5 with (fail)
    refine wp_region_held_drew (S := Q8 g2 g3 p mp op n (.slice sa segs.length sc) text (.slice ka keep.length kc)) (by kernel_rfl) ?_ (fun hHeld => ?_)
    · exact Q8_drew hS
    refine take_wanted (i := 0) (v := ?_) rfl (by kernel_rfl) (by kernel_rfl) (by kernel_rfl) (fun _ _ _ h => h) (by rfl) ?_ (by assumption) ?_
    rotate_left
    · intro w hSw
      (try dsimp only at hSw)
      go_simp
      (try with_reducible rfl)
    simp only [Act.put, List.setIfInBounds_toArray, List.set_cons_zero, List.set_cons_succ]
    refine take_wanted (i := 1) (v := ?_) rfl (by kernel_rfl) (by kernel_rfl) (by kernel_rfl) (fun _ _ _ h => h) (by rfl) ?_ (by assumption) ?_
    rotate_left
    · intro w hSw
      (try dsimp only at hSw)
      go_simp
      (try with_reducible rfl)
    simp only [Act.put, List.setIfInBounds_toArray, List.set_cons_zero, List.set_cons_succ]
    refine take_wanted (i := 2) (v := ?_) rfl (by kernel_rfl) (by kernel_rfl) (by kernel_rfl) (fun _ _ _ h => h) (by rfl) ?_ (by assumption) ?_
    rotate_left
    · intro w hSw
      (try dsimp only at hSw)
      go_simp
      (try with_reducible rfl)
    simp only [Act.put, List.setIfInBounds_toArray, List.set_cons_zero, List.set_cons_succ]
    refine take_wanted (i := 3) (v := ?_) rfl (by kernel_rfl) (by kernel_rfl) (by kernel_rfl) (fun _ _ _ h => h) (by rfl) ?_ (by assumption) ?_
    rotate_left
    · intro w hSw
      (try dsimp only at hSw)
      go_simp
      (try with_reducible rfl)
    simp only [Act.put, List.setIfInBounds_toArray, List.set_cons_zero, List.set_cons_succ]
    refine take_wanted (i := 4) (v := ?_) rfl (by kernel_rfl) (by kernel_rfl) (by kernel_rfl) (fun _ _ _ h => h) (by rfl) ?_ (by assumption) ?_
    rotate_left
    · intro w hSw
      (try dsimp only at hSw)
      go_simp
      (try with_reducible rfl)
    simp only [Act.put, List.setIfInBounds_toArray, List.set_cons_zero, List.set_cons_succ]
    refine take_wanted (i := 5) (v := ?_) rfl (by kernel_rfl) (by kernel_rfl) (by kernel_rfl) (fun _ _ _ h => h) (by rfl) ?_ (by assumption) ?_
    rotate_left
    · intro w hSw
      (try dsimp only at hSw)
      go_simp
      (try with_reducible rfl)
    simp only [Act.put, List.setIfInBounds_toArray, List.set_cons_zero, List.set_cons_succ]
    refine take_wanted (i := 6) (v := ?_) rfl (by kernel_rfl) (by kernel_rfl) (by kernel_rfl) (fun _ _ _ h => h) (by rfl) ?_ (by assumption) ?_
    rotate_left
    · intro w hSw
      (try dsimp only at hSw)
      go_simp
      (try with_reducible rfl)
    simp only [Act.put, List.setIfInBounds_toArray, List.set_cons_zero, List.set_cons_succ]
    refine take_wanted (i := 8) (v := ?_) rfl (by kernel_rfl) (by kernel_rfl) (by kernel_rfl) (fun _ _ _ h => h) (by rfl) ?_ (by assumption) ?_
    rotate_left
    · intro w hSw
      (try dsimp only at hSw)
      go_simp
      (try with_reducible rfl)
    simp only [Act.put, List.setIfInBounds_toArray, List.set_cons_zero, List.set_cons_succ]
    refine take_wanted (i := 9) (v := ?_) rfl (by kernel_rfl) (by kernel_rfl) (by kernel_rfl) (fun _ _ _ h => h) (by rfl) ?_ (by assumption) ?_
    rotate_left
    · intro w hSw
      (try dsimp only at hSw)
      go_simp
      (try with_reducible rfl)
    simp only [Act.put, List.setIfInBounds_toArray, List.set_cons_zero, List.set_cons_succ]
    refine take_wanted (i := 10) (v := ?_) rfl (by kernel_rfl) (by kernel_rfl) (by kernel_rfl) (fun _ _ _ h => h) (by rfl) ?_ (by assumption) ?_
    rotate_left
    · intro w hSw
      (try dsimp only at hSw)
      go_simp
      (try with_reducible rfl)
    simp only [Act.put, List.setIfInBounds_toArray, List.set_cons_zero, List.set_cons_succ]
    refine take_wanted (i := 11) (v := ?_) rfl (by kernel_rfl) (by kernel_rfl) (by kernel_rfl) (fun _ _ _ h => h) (by rfl) ?_ (by assumption) ?_
    rotate_left
    · intro w hSw
      (try dsimp only at hSw)
      go_simp
      (try with_reducible rfl)
    simp only [Act.put, List.setIfInBounds_toArray, List.set_cons_zero, List.set_cons_succ]
    refine take_wanted (i := 12) (v := ?_) rfl (by kernel_rfl) (by kernel_rfl) (by kernel_rfl) (fun _ _ _ h => h) (by rfl) ?_ (by assumption) ?_
    rotate_left
    · intro w hSw
      (try dsimp only at hSw)
      go_simp
      (try with_reducible rfl)
    simp only [Act.put, List.setIfInBounds_toArray, List.set_cons_zero, List.set_cons_succ]
    refine take_wanted (i := 13) (v := ?_) rfl (by kernel_rfl) (by kernel_rfl) (by kernel_rfl) (fun _ _ _ h => h) (by rfl) ?_ (by assumption) ?_
    rotate_left
    · intro w hSw
      (try dsimp only at hSw)
      go_simp
      (try with_reducible rfl)
    simp only [Act.put, List.setIfInBounds_toArray, List.set_cons_zero, List.set_cons_succ]
    refine take_wanted (i := 14) (v := ?_) rfl (by kernel_rfl) (by kernel_rfl) (by kernel_rfl) (fun _ _ _ h => h) (by rfl) ?_ (by assumption) ?_
    rotate_left
    · intro w hSw
      (try dsimp only at hSw)
      go_simp
      (try with_reducible rfl)
    simp only [Act.put, List.setIfInBounds_toArray, List.set_cons_zero, List.set_cons_succ]
    refine take_only (i := 7) (by kernel_rfl) rfl (by rfl) (fun K hK => ?_)
    go_simp
    go_at_call 20
    refine (Save_l C n segs _ e9 l9 HPS4.out.drew.at_ HPS4.out.inv hro3 (fun _ hb => readsI_below HS.out (but_low HPS4.out.drew.bel hb HPS4.out.drew.lo)) HACT.out).mono ?_
    rintro x w7 ⟨rfl, ⟨S7, hA7, hg7⟩, hb7⟩; have hmid := Lib.hid (HPS4.out.drew.mid hA7 hg7 hb7)
    refine hK.out _ _ ?_ (fun hHeld => ?_)
    · exact (hHeld.2.2.2.2.2.2.but hb7 HN2.out.1 HN2.out.2).q8
    clear hK K
    refine take_only (i := 15) (by kernel_rfl) rfl (by rfl) (fun K hK => ?_)
    go_simp
    go_at_call 21
    refine (rSave_l n segs _ e9 l9 _ hmid.out.mat hmid.out.inv hro3 (readsI_below HS.out hmid.out.bel) (by omega) HACT.out).mono ?_
    rintro x w9 ⟨rfl, hm9, hk9⟩
    refine hK.out _ _ ?_ (fun hHeld => ?_)
    · exact (hHeld.2.2.2.2.2.2.kp hk9 HNM.out.1 HNM.out.2).q8
    clear hK K
    refine take_wanted (i := 16) (v := .bool true) rfl (by kernel_rfl) (by kernel_rfl) (by kernel_rfl) (fun _ _ _ h => h) (by rfl) ?_ (by assumption) ?_
    · intro w hSw
      (try dsimp only at hSw)
      go_simp
      try simp
    simp only [Act.put, List.setIfInBounds_toArray, List.set_cons_zero, List.set_cons_succ]
    refine take_wanted (i := 17) (v := ?_) rfl (by kernel_rfl) (by kernel_rfl) (by kernel_rfl) (fun _ _ _ h => h) (by rfl) ?_ (by assumption) ?_
    rotate_left
    · intro w hSw
      (try dsimp only at hSw)
      go_simp
      (try with_reducible rfl)
    simp only [Act.put, List.setIfInBounds_toArray, List.set_cons_zero, List.set_cons_succ]
    refine wpAnyH_done (by kernel_rfl) ?_ _
    have HPS9 := Lib.hid (hmid.out.done hm9 hk9 HI9.out HN9.out)
    have HRS9 := Lib.hid (rest_of HG2.out HB4.out.drew hb7 hg7 hk9)
    clear hHeld hS
    go_wp2
    go_ret
    exact ⟨rfl, l9, S7, HPS9.out, HRS9.out⟩
  · subst hd
    obtain ⟨⟨e9, l9⟩, hact⟩ : ∃ q, raiseD room n l = q := ⟨_, rfl⟩
    have HACT := Lib.hid hact
    have HI9 := Lib.hid (show D.Inv room l9 by have := raise_inv (z := n) HPS4.out.inv; rw [hact] at this; exact this)
    have HN9 := Lib.hid (show Names l9 by have := HPS4.out.nam.raise (room := room) (z := n); rw [hact] at this; exact this)
    clear hact
    have hS := HQ4.out.q8
    go_upto_region 8 with (fail)
    refine wp_region_held_drew (S := Q8 g2 g3 p mp op n (.slice sa segs.length sc) text (.slice ka keep.length kc)) (by kernel_rfl) ?_ (fun hHeld => ?_)
    · exact Q8_drew hS
    refine take_wanted (i := 0) (v := ?_) rfl (by kernel_rfl) (by kernel_rfl) (by kernel_rfl) (fun _ _ _ h => h) (by rfl) ?_ (by assumption) ?_
    rotate_left
    · intro w hSw
      (try dsimp only at hSw)
      go_simp
      (try with_reducible rfl)
    simp only [Act.put, List.setIfInBounds_toArray, List.set_cons_zero, List.set_cons_succ]
    refine take_wanted (i := 1) (v := ?_) rfl (by kernel_rfl) (by kernel_rfl) (by kernel_rfl) (fun _ _ _ h => h) (by rfl) ?_ (by assumption) ?_
    rotate_left
    · intro w hSw
      (try dsimp only at hSw)
      go_simp
      (try with_reducible rfl)
    simp only [Act.put, List.setIfInBounds_toArray, List.set_cons_zero, List.set_cons_succ]
    refine take_wanted (i := 2) (v := ?_) rfl (by kernel_rfl) (by kernel_rfl) (by kernel_rfl) (fun _ _ _ h => h) (by rfl) ?_ (by assumption) ?_
    rotate_left
    · intro w hSw
      (try dsimp only at hSw)
      go_simp
      (try with_reducible rfl)
    simp only [Act.put, List.setIfInBounds_toArray, List.set_cons_zero, List.set_cons_succ]
    refine take_wanted (i := 3) (v := ?_) rfl (by kernel_rfl) (by kernel_rfl) (by kernel_rfl) (fun _ _ _ h => h) (by rfl) ?_ (by assumption) ?_
    rotate_left
    · intro w hSw
      (try dsimp only at hSw)
      go_simp
      (try with_reducible rfl)
    simp only [Act.put, List.setIfInBounds_toArray, List.set_cons_zero, List.set_cons_succ]
    refine take_wanted (i := 5) (v := ?_) rfl (by kernel_rfl) (by kernel_rfl) (by kernel_rfl) (fun _ _ _ h => h) (by rfl) ?_ (by assumption) ?_
    rotate_left
    · intro w hSw
      (try dsimp only at hSw)
      go_simp
      (try with_reducible rfl)
    simp only [Act.put, List.setIfInBounds_toArray, List.set_cons_zero, List.set_cons_succ]
    refine take_wanted (i := 6) (v := ?_) rfl (by kernel_rfl) (by kernel_rfl) (by kernel_rfl) (fun _ _ _ h => h) (by rfl) ?_ (by assumption) ?_
    rotate_left
    · intro w hSw
      (try dsimp only at hSw)
      go_simp
      (try with_reducible rfl)
    simp only [Act.put, List.setIfInBounds_toArray, List.set_cons_zero, List.set_cons_succ]
    refine take_wanted (i := 7) (v := ?_) rfl (by kernel_rfl) (by kernel_rfl) (by kernel_rfl) (fun _ _ _ h => h) (by rfl) ?_ (by assumption) ?_
    rotate_left
    · intro w hSw
      (try dsimp only at hSw)
      go_simp
      (try with_reducible rfl)
    simp only [Act.put, List.setIfInBounds_toArray, List.set_cons_zero, List.set_cons_succ]
    refine take_wanted (i := 8) (v := ?_) rfl (by kernel_rfl) (by kernel_rfl) (by kernel_rfl) (fun _ _ _ h => h) (by rfl) ?_ (by assumption) ?_
    rotate_left
    · intro w hSw
      (try dsimp only at hSw)
      go_simp
      (try with_reducible rfl)
    simp only [Act.put, List.setIfInBounds_toArray, List.set_cons_zero, List.set_cons_succ]
    refine take_only (i := 4) (by kernel_rfl) rfl (by rfl) (fun K hK => ?_)
    go_simp
    go_at_call 17
    refine (Raise_l C n e9 l9 HPS4.out.drew.at_ HPS4.out.inv hro3 HACT.out).mono ?_
    rintro x w7 ⟨rfl, ⟨S7, hA7, hg7⟩, hb7⟩; have hmid := Lib.hid (HPS4.out.drew.mid hA7 hg7 hb7)
    refine hK.out _ _ ?_ (fun hHeld => ?_)
    · exact (hHeld.2.2.2.2.2.2.but hb7 HN2.out.1 HN2.out.2).q8
    clear hK K
    refine take_only (i := 9) (by kernel_rfl) rfl (by rfl) (fun K hK => ?_)
    go_simp
    go_at_call 22
    refine (rRaise_l n e9 l9 _ hmid.out.mat hmid.out.inv hro HACT.out).mono ?_
    rintro x w9 ⟨rfl, hm9, hk9⟩
    refine hK.out _ _ ?_ (fun hHeld => ?_)
    · exact (hHeld.2.2.2.2.2.2.kp hk9 HNM.out.1 HNM.out.2).q8
    clear hK K
    refine take_wanted (i := 10) (v := .bool true) rfl (by kernel_rfl) (by kernel_rfl) (by kernel_rfl) (fun _ _ _ h => h) (by rfl) ?_ (by assumption) ?_
    · intro w hSw
      (try dsimp only at hSw)
      go_simp
      try simp
    simp only [Act.put, List.setIfInBounds_toArray, List.set_cons_zero, List.set_cons_succ]
    refine take_wanted (i := 11) (v := ?_) rfl (by kernel_rfl) (by kernel_rfl) (by kernel_rfl) (fun _ _ _ h => h) (by rfl) ?_ (by assumption) ?_
    rotate_left
    · intro w hSw
      (try dsimp only at hSw)
      go_simp
      (try with_reducible rfl)
    simp only [Act.put, List.setIfInBounds_toArray, List.set_cons_zero, List.set_cons_succ]
    refine wpAnyH_done (by kernel_rfl) ?_ _
    have HPS9 := Lib.hid (hmid.out.done hm9 hk9 HI9.out HN9.out)
    have HRS9 := Lib.hid (rest_of HG2.out HB4.out.drew hb7 hg7 hk9)
    clear hHeld hS
    go_wp2
    go_ret
    exact ⟨rfl, l9, S7, HPS9.out, HRS9.out⟩
  · subst hd
    obtain ⟨⟨e9, l9⟩, hact⟩ : ∃ q, raiseD room n l = q := ⟨_, rfl⟩
    have HACT := Lib.hid hact
    have HI9 := Lib.hid (show D.Inv room l9 by have := raise_inv (z := n) HPS4.out.inv; rw [hact] at this; exact this)
    have HN9 := Lib.hid (show Names l9 by have := HPS4.out.nam.raise (room := room) (z := n); rw [hact] at this; exact this)
    clear hact
    have hS := HQ4.out.q8
    go_upto_region 8 with (fail)
    refine wp_region_held_drew (S := Q8 g2 g3 p mp op n (.slice sa segs.length sc) text (.slice ka keep.length kc)) (by kernel_rfl) ?_ (fun hHeld => ?_)
    · exact Q8_drew hS
    refine take_wanted (i := 0) (v := ?_) rfl (by kernel_rfl) (by kernel_rfl) (by kernel_rfl) (fun _ _ _ h => h) (by rfl) ?_ (by assumption) ?_
    rotate_left
    · intro w hSw
      (try dsimp only at hSw)
      go_simp
      (try with_reducible rfl)
    simp only [Act.put, List.setIfInBounds_toArray, List.set_cons_zero, List.set_cons_succ]
    refine take_wanted (i := 1) (v := ?_) rfl (by kernel_rfl) (by kernel_rfl) (by kernel_rfl) (fun _ _ _ h => h) (by rfl) ?_ (by assumption) ?_
    rotate_left
    · intro w hSw
      (try dsimp only at hSw)
      go_simp
      (try with_reducible rfl)
    simp only [Act.put, List.setIfInBounds_toArray, List.set_cons_zero, List.set_cons_succ]
    refine take_wanted (i := 2) (v := ?_) rfl (by kernel_rfl) (by kernel_rfl) (by kernel_rfl) (fun _ _ _ h => h) (by rfl) ?_ (by assumption) ?_
    rotate_left
    · intro w hSw
      (try dsimp only at hSw)
      go_simp
      (try with_reducible rfl)
    simp only [Act.put, List.setIfInBounds_toArray, List.set_cons_zero, List.set_cons_succ]
    refine take_wanted (i := 3) (v := ?_) rfl (by kernel_rfl) (by kernel_rfl) (by kernel_rfl) (fun _ _ _ h => h) (by rfl) ?_ (by assumption) ?_
    rotate_left
    · intro w hSw
      (try dsimp only at hSw)
      go_simp
      (try with_reducible rfl)
    simp only [Act.put, List.setIfInBounds_toArray, List.set_cons_zero, List.set_cons_succ]
    refine take_wanted (i := 5) (v := ?_) rfl (by kernel_rfl) (by kernel_rfl) (by kernel_rfl) (fun _ _ _ h => h) (by rfl) ?_ (by assumption) ?_
    rotate_left
    · intro w hSw
      (try dsimp only at hSw)
      go_simp
      (try with_reducible rfl)
    simp only [Act.put, List.setIfInBounds_toArray, List.set_cons_zero, List.set_cons_succ]
    refine take_wanted (i := 6) (v := ?_) rfl (by kernel_rfl) (by kernel_rfl) (by kernel_rfl) (fun _ _ _ h => h) (by rfl) ?_ (by assumption) ?_
    rotate_left
    · intro w hSw
      (try dsimp only at hSw)
      go_simp
      (try with_reducible rfl)
    simp only [Act.put, List.setIfInBounds_toArray, List.set_cons_zero, List.set_cons_succ]
    refine take_wanted (i := 7) (v := ?_) rfl (by kernel_rfl) (by kernel_rfl) (by kernel_rfl) (fun _ _ _ h => h) (by rfl) ?_ (by assumption) ?_
    rotate_left
    · intro w hSw
      (try dsimp only at hSw)
      go_simp
      (try with_reducible rfl)
    simp only [Act.put, List.setIfInBounds_toArray, List.set_cons_zero, List.set_cons_succ]
    refine take_wanted (i := 8) (v := ?_) rfl (by kernel_rfl) (by kernel_rfl) (by kernel_rfl) (fun _ _ _ h => h) (by rfl) ?_ (by assumption) ?_
    rotate_left
    · intro w hSw
      (try dsimp only at hSw)
      go_simp
      (try with_reducible rfl)
    simp only [Act.put, List.setIfInBounds_toArray, List.set_cons_zero, List.set_cons_succ]
    refine take_only (i := 4) (by kernel_rfl) rfl (by rfl) (fun K hK => ?_)
    go_simp
    go_at_call 17
    refine (Raise_l C n e9 l9 HPS4.out.drew.at_ HPS4.out.inv hro3 HACT.out).mono ?_
    rintro x w7 ⟨rfl, ⟨S7, hA7, hg7⟩, hb7⟩; have hmid := Lib.hid (HPS4.out.drew.mid hA7 hg7 hb7)
    refine hK.out _ _ ?_ (fun hHeld => ?_)
    · exact (hHeld.2.2.2.2.2.2.but hb7 HN2.out.1 HN2.out.2).q8
    clear hK K
    refine take_only (i := 9) (by kernel_rfl) rfl (by rfl) (fun K hK => ?_)
    go_simp
    go_at_call 22
    refine (rRaise_l n e9 l9 _ hmid.out.mat hmid.out.inv hro HACT.out).mono ?_
    rintro x w9 ⟨rfl, hm9, hk9⟩
    refine hK.out _ _ ?_ (fun hHeld => ?_)
    · exact (hHeld.2.2.2.2.2.2.kp hk9 HNM.out.1 HNM.out.2).q8
    clear hK K
    refine take_wanted (i := 10) (v := .bool true) rfl (by kernel_rfl) (by kernel_rfl) (by kernel_rfl) (fun _ _ _ h => h) (by rfl) ?_ (by assumption) ?_
    · intro w hSw
      (try dsimp only at hSw)
      go_simp
      try simp
    simp only [Act.put, List.setIfInBounds_toArray, List.set_cons_zero, List.set_cons_succ]
    refine take_wanted (i := 11) (v := ?_) rfl (by kernel_rfl) (by kernel_rfl) (by kernel_rfl) (fun _ _ _ h => h) (by rfl) ?_ (by assumption) ?_
    rotate_left
    · intro w hSw
      (try dsimp only at hSw)
      go_simp
      (try with_reducible rfl)
    simp only [Act.put, List.setIfInBounds_toArray, List.set_cons_zero, List.set_cons_succ]
    refine wpAnyH_done (by kernel_rfl) ?_ _
    have HPS9 := Lib.hid (hmid.out.done hm9 hk9 HI9.out HN9.out)
    have HRS9 := Lib.hid (rest_of HG2.out HB4.out.drew hb7 hg7 hk9)
    clear hHeld hS
    go_wp2
    go_ret
    exact ⟨rfl, l9, S7, HPS9.out, HRS9.out⟩
  · subst hd
    obtain ⟨⟨e9, l9⟩, hact⟩ : ∃ q, D.append room nm text l = q := ⟨_, rfl⟩
    have HACT := Lib.hid hact
    have HI9 := Lib.hid (show D.Inv room l9 by have := HPS4.out.inv.append (n := nm) (s := text); rw [hact] at this; exact this)
    have HN9 := Lib.hid (show Names l9 by have := HPS4.out.nam.append (room := room) (s := text) (by omega : nm.length ≤ 1000); rw [hact] at this; exact this)
    clear hact
    have hS := HQ4.out.q8
    go_upto_region 10 with (fail)
    refine wp_region_held_drew (S := Q8 g2 g3 p mp op n (.slice sa segs.length sc) text (.slice ka keep.length kc)) (by kernel_rfl) ?_ (fun hHeld => ?_)
    · exact Q8_drew hS
    refine take_wanted (i := 0) (v := ?_) rfl (by kernel_rfl) (by kernel_rfl) (by kernel_rfl) (fun _ _ _ h => h) (by rfl) ?_ (by assumption) ?_
    rotate_left
    · intro w hSw
      (try dsimp only at hSw)
      go_simp
      (try with_reducible rfl)
    simp only [Act.put, List.setIfInBounds_toArray, List.set_cons_zero, List.set_cons_succ]
    refine take_wanted (i := 1) (v := ?_) rfl (by kernel_rfl) (by kernel_rfl) (by kernel_rfl) (fun _ _ _ h => h) (by rfl) ?_ (by assumption) ?_
    rotate_left
    · intro w hSw
      (try dsimp only at hSw)
      go_simp
      (try with_reducible rfl)
    simp only [Act.put, List.setIfInBounds_toArray, List.set_cons_zero, List.set_cons_succ]
    refine take_wanted (i := 2) (v := ?_) rfl (by kernel_rfl) (by kernel_rfl) (by kernel_rfl) (fun _ _ _ h => h) (by rfl) ?_ (by assumption) ?_
    rotate_left
    · intro w hSw
      (try dsimp only at hSw)
      go_simp
      (try with_reducible rfl)
    simp only [Act.put, List.setIfInBounds_toArray, List.set_cons_zero, List.set_cons_succ]
    refine take_wanted (i := 3) (v := ?_) rfl (by kernel_rfl) (by kernel_rfl) (by kernel_rfl) (fun _ _ _ h => h) (by rfl) ?_ (by assumption) ?_
    rotate_left
    · intro w hSw
      (try dsimp only at hSw)
      go_simp
      (try with_reducible rfl)
    simp only [Act.put, List.setIfInBounds_toArray, List.set_cons_zero, List.set_cons_succ]
    refine take_wanted (i := 4) (v := ?_) rfl (by kernel_rfl) (by kernel_rfl) (by kernel_rfl) (fun _ _ _ h => h) (by rfl) ?_ (by assumption) ?_
    rotate_left
    · intro w hSw
      (try dsimp only at hSw)
      go_simp
      (try with_reducible rfl)
    simp only [Act.put, List.setIfInBounds_toArray, List.set_cons_zero, List.set_cons_succ]
    refine take_wanted (i := 6) (v := ?_) rfl (by kernel_rfl) (by kernel_rfl) (by kernel_rfl) (fun _ _ _ h => h) (by rfl) ?_ (by assumption) ?_
    rotate_left
    · intro w hSw
      (try dsimp only at hSw)
      go_simp
      (try with_reducible rfl)
    simp only [Act.put, List.setIfInBounds_toArray, List.set_cons_zero, List.set_cons_succ]
    refine take_wanted (i := 7) (v := ?_) rfl (by kernel_rfl) (by kernel_rfl) (by kernel_rfl) (fun _ _ _ h => h) (by rfl) ?_ (by assumption) ?_
    rotate_left
    · intro w hSw
      (try dsimp only at hSw)
      go_simp
      (try with_reducible rfl)
    simp only [Act.put, List.setIfInBounds_toArray, List.set_cons_zero, List.set_cons_succ]
    refine take_wanted (i := 8) (v := ?_) rfl (by kernel_rfl) (by kernel_rfl) (by kernel_rfl) (fun _ _ _ h => h) (by rfl) ?_ (by assumption) ?_
    rotate_left
    · intro w hSw
      (try dsimp only at hSw)
      go_simp
      (try with_reducible rfl)
    simp only [Act.put, List.setIfInBounds_toArray, List.set_cons_zero, List.set_cons_succ]
    refine take_wanted (i := 9) (v := ?_) rfl (by kernel_rfl) (by kernel_rfl) (by kernel_rfl) (fun _ _ _ h => h) (by rfl) ?_ (by assumption) ?_
    rotate_left
    · intro w hSw
      (try dsimp only at hSw)
      go_simp
      (try with_reducible rfl)
    simp only [Act.put, List.setIfInBounds_toArray, List.set_cons_zero, List.set_cons_succ]
    refine take_wanted (i := 10) (v := ?_) rfl (by kernel_rfl) (by kernel_rfl) (by kernel_rfl) (fun _ _ _ h => h) (by rfl) ?_ (by assumption) ?_
    rotate_left
    · intro w hSw
      (try dsimp only at hSw)
      go_simp
      (try with_reducible rfl)
    simp only [Act.put, List.setIfInBounds_toArray, List.set_cons_zero, List.set_cons_succ]
    refine take_only (i := 5) (by kernel_rfl) rfl (by rfl) (fun K hK => ?_)
    go_simp
    go_at_call 23
    refine (C.append nm text e9 l9 HPS4.out.drew.at_ HPS4.out.inv hro2 (by omega) (by omega) HACT.out).mono ?_
    rintro x w7 ⟨rfl, ⟨S7, hA7, hg7⟩, hb7⟩; have hmid := Lib.hid (HPS4.out.drew.mid hA7 hg7 hb7)
    refine hK.out _ _ ?_ (fun hHeld => ?_)
    · exact (hHeld.2.2.2.2.2.2.but hb7 HN2.out.1 HN2.out.2).q8
    clear hK K
    refine take_only (i := 11) (by kernel_rfl) rfl (by rfl) (fun K hK => ?_)
    go_simp
    go_at_call 24
    refine (D.mAppend_l mp room l nm text e9 l9 _ hmid.out.mat hmid.out.inv.sorted hmid.out.inv.many (by omega) (by omega) (by have := hmid.out.inv.room; omega) HACT).mono ?_
    rintro x w9 ⟨rfl, hm9, hk9⟩
    refine hK.out _ _ ?_ (fun hHeld => ?_)
    · exact (hHeld.2.2.2.2.2.2.kp hk9 HNM.out.1 HNM.out.2).q8
    clear hK K
    refine take_wanted (i := 12) (v := .bool true) rfl (by kernel_rfl) (by kernel_rfl) (by kernel_rfl) (fun _ _ _ h => h) (by rfl) ?_ (by assumption) ?_
    · intro w hSw
      (try dsimp only at hSw)
      go_simp
      try simp
    simp only [Act.put, List.setIfInBounds_toArray, List.set_cons_zero, List.set_cons_succ]
    refine take_wanted (i := 13) (v := ?_) rfl (by kernel_rfl) (by kernel_rfl) (by kernel_rfl) (fun _ _ _ h => h) (by rfl) ?_ (by assumption) ?_
    rotate_left
    · intro w hSw
      (try dsimp only at hSw)
      go_simp
      (try with_reducible rfl)
    simp only [Act.put, List.setIfInBounds_toArray, List.set_cons_zero, List.set_cons_succ]
    refine wpAnyH_done (by kernel_rfl) ?_ _
    have HPS9 := Lib.hid (hmid.out.done hm9 hk9 HI9.out HN9.out)
    have HRS9 := Lib.hid (rest_of HG2.out HB4.out.drew hb7 hg7 hk9)
    clear hHeld hS
    go_wp2
    go_ret
    exact ⟨rfl, l9, S7, HPS9.out, HRS9.out⟩
  · subst hd
    have k0 := HQ4.out.q8.1
    have k4 := HQ4.out.q8.2.2.2.2.2.1
    go_wp2_with fail
    refine (C.crash keep _ HPS4.out.at_ HPS4.out.inv hro2 (fun _ hb => readsI_below HK.out (but_low HPS4.out.bel hb HPS4.out.lo)) (by omega)).mono ?_
    rintro x w7 ⟨rfl, ⟨S7, hA7, hg7⟩, hb7⟩
    have hmid := Lib.hid (HPS4.out.mid hA7 hg7 hb7)
    have HQ7 := Lib.hid (HQ4.out.but hb7 HN2.out.1 HN2.out.2)
    have HI9 := Lib.hid (HPS4.out.inv.crash (ks := keep))
    have HN9 := Lib.hid (HPS4.out.nam.crash (ks := keep))
    have h40 := HPS4.out.inv.many
    clear hA7 k0 k4
    have k1 := HQ7.out.q8.2.1
    have k4 := HQ7.out.q8.2.2.2.2.2.1
    go_wp2_with fail
    refine (D.mCrash_l mp room l keep _ w7 hmid.out.mat (by omega) (fun f hf => ⟨hmid.out.inv.syn f hf, by have := data_leR hmid.out.inv hf; omega⟩) (fun _ hb => readsI_below HK.out (Kp_low rfl hmid.out.bel hb))).mono ?_
    rintro x w9 ⟨rfl, hm9, hk9⟩
    have HPS9 := Lib.hid (hmid.out.done hm9 hk9 HI9.out HN9.out)
    have HRS9 := Lib.hid (rest_of HG2.out HB4.out hb7 hg7 hk9)
    clear hm9 hk9
    go_wp2
    go_ret
    exact ⟨rfl, _, S7, HPS9.out, HRS9.out⟩
  · subst hd
    obtain ⟨⟨e9, l9⟩, hact⟩ : ∃ q, D.delete nm l = q := ⟨_, rfl⟩
    have HACT := Lib.hid hact
    have HI9 := Lib.hid (show D.Inv room l9 by have := HPS4.out.inv.delete (n := nm); rw [hact] at this; exact this)
    have HN9 := Lib.hid (show Names l9 by have := HPS4.out.nam.delete (n := nm); rw [hact] at this; exact this)
    clear hact
    have hS := HQ4.out.q8
    go_upto_region 15 with (fail)
    refine wp_region_held_drew (S := Q8 g2 g3 p mp op n (.slice sa segs.length sc) text (.slice ka keep.length kc)) (by kernel_rfl) ?_ (fun hHeld => ?_)
    · exact Q8_drew hS
    refine take_wanted (i := 0) (v := ?_) rfl (by kernel_rfl) (by kernel_rfl) (by kernel_rfl) (fun _ _ _ h => h) (by rfl) ?_ (by assumption) ?_
    rotate_left
    · intro w hSw
      (try dsimp only at hSw)
      go_simp
      (try with_reducible rfl)
    simp only [Act.put, List.setIfInBounds_toArray, List.set_cons_zero, List.set_cons_succ]
    refine take_wanted (i := 1) (v := ?_) rfl (by kernel_rfl) (by kernel_rfl) (by kernel_rfl) (fun _ _ _ h => h) (by rfl) ?_ (by assumption) ?_
    rotate_left
    · intro w hSw
      (try dsimp only at hSw)
      go_simp
      (try with_reducible rfl)
    simp only [Act.put, List.setIfInBounds_toArray, List.set_cons_zero, List.set_cons_succ]
    refine take_wanted (i := 2) (v := ?_) rfl (by kernel_rfl) (by kernel_rfl) (by kernel_rfl) (fun _ _ _ h => h) (by rfl) ?_ (by assumption) ?_
    rotate_left
    · intro w hSw
      (try dsimp only at hSw)
      go_simp
      (try with_reducible rfl)
    simp only [Act.put, List.setIfInBounds_toArray, List.set_cons_zero, List.set_cons_succ]
    refine take_wanted (i := 4) (v := ?_) rfl (by kernel_rfl) (by kernel_rfl) (by kernel_rfl) (fun _ _ _ h => h) (by rfl) ?_ (by assumption) ?_
    rotate_left
    · intro w hSw
      (try dsimp only at hSw)
      go_simp
      (try with_reducible rfl)
    simp only [Act.put, List.setIfInBounds_toArray, List.set_cons_zero, List.set_cons_succ]
    refine take_wanted (i := 5) (v := ?_) rfl (by kernel_rfl) (by kernel_rfl) (by kernel_rfl) (fun _ _ _ h => h) (by rfl) ?_ (by assumption) ?_
    rotate_left
    · intro w hSw
      (try dsimp only at hSw)
      go_simp
      (try with_reducible rfl)
    simp only [Act.put, List.setIfInBounds_toArray, List.set_cons_zero, List.set_cons_succ]
    refine take_wanted (i := 6) (v := ?_) rfl (by kernel_rfl) (by kernel_rfl) (by kernel_rfl) (fun _ _ _ h => h) (by rfl) ?_ (by assumption) ?_
    rotate_left
    · intro w hSw
      (try dsimp only at hSw)
      go_simp
      (try with_reducible rfl)
    simp only [Act.put, List.setIfInBounds_toArray, List.set_cons_zero, List.set_cons_succ]
    refine take_only (i := 3) (by kernel_rfl) rfl (by rfl) (fun K hK => ?_)
    go_simp
    go_at_call 27
    refine (C.delete nm e9 l9 HPS4.out.drew.at_ HPS4.out.inv hro2 (by omega) HACT.out).mono ?_
    rintro x w7 ⟨rfl, ⟨S7, hA7, hg7⟩, hb7⟩; have hmid := Lib.hid (HPS4.out.drew.mid hA7 hg7 hb7)
    refine hK.out _ _ ?_ (fun hHeld => ?_)
    · exact (hHeld.2.2.2.2.2.2.but hb7 HN2.out.1 HN2.out.2).q8
    clear hK K
    refine take_only (i := 7) (by kernel_rfl) rfl (by rfl) (fun K hK => ?_)
    go_simp
    go_at_call 28
    refine (D.mDelete_l mp room l nm e9 l9 _ hmid.out.mat hmid.out.inv.sorted hmid.out.inv.many HACT).mono ?_
    rintro x w9 ⟨rfl, hm9, hkq9, -⟩; have hk9 := hkq9.kp (mlo hmid.out.mat)
    refine hK.out _ _ ?_ (fun hHeld => ?_)
    · exact (hHeld.2.2.2.2.2.2.kp hk9 HNM.out.1 HNM.out.2).q8
    clear hK K
    refine take_wanted (i := 8) (v := .bool true) rfl (by kernel_rfl) (by kernel_rfl) (by kernel_rfl) (fun _ _ _ h => h) (by rfl) ?_ (by assumption) ?_
    · intro w hSw
      (try dsimp only at hSw)
      go_simp
      try simp
    simp only [Act.put, List.setIfInBounds_toArray, List.set_cons_zero, List.set_cons_succ]
    refine take_wanted (i := 9) (v := ?_) rfl (by kernel_rfl) (by kernel_rfl) (by kernel_rfl) (fun _ _ _ h => h) (by rfl) ?_ (by assumption) ?_
    rotate_left
    · intro w hSw
      (try dsimp only at hSw)
      go_simp
      (try with_reducible rfl)
    simp only [Act.put, List.setIfInBounds_toArray, List.set_cons_zero, List.set_cons_succ]
    refine wpAnyH_done (by kernel_rfl) ?_ _
    have HPS9 := Lib.hid (hmid.out.done hm9 hk9 HI9.out HN9.out)
    have HRS9 := Lib.hid (rest_of HG2.out HB4.out.drew hb7 hg7 hk9)
    clear hHeld hS
    go_wp2
    go_ret
    exact ⟨rfl, l9, S7, HPS9.out, HRS9.out⟩
end Go.Proofs.YtmfhipjceeijmaaGreat.A

/-
  The walk of the law ManifestPlays over any disk that keeps its contracts.
-/
namespace Go.Proofs.YtmfhipjceeijmaaGreat.A
open Go.RowKit
open D (Tx ReadsI i64B readsI_below dP MAt F)
attribute [local go_sem] ext_Bd ext_Bl ext_Bt toList_B add_B size_B get_Bt

/-- Both disks at work, and the law's block that tells them. -/
structure PLA (C : D.DC) (w : World) (p mp room ga : Nat) (wr : World) (l : List F) (S : Nat → Prop) : Prop where
  ps : PSA C w p mp room wr l S
  blk : wr.heap[ga]? = some (.cells #[dP p, dP mp] 28 (0, 0))
  ng : ¬ S ga
  nm : ga ≠ mp
section
variable {C : D.DC} {w : World} {p mp room ga : Nat} {wr w' : World} {l l2 : List F} {S S2 : Nat → Prop}
theorem PLA.below (h : PLA C w p mp room ga wr l S) (hb : Below wr.heap.size wr w') : PLA C w p mp room ga w' l S :=
  ⟨h.ps.below hb, (hb.block _ (lt_of_block h.blk)).trans h.blk, h.ng, h.nm⟩
theorem PLA.drew (h : PLA C w p mp room ga wr l S) : PLA C w p mp room ga wr.drew l S := h.below ⟨rfl, rfl, rfl, Nat.le_refl _, fun _ _ => rfl⟩
theorem PLA.next (h : PLA C w p mp room ga wr l S) (hp : PSA C w p mp room w' l2 S2) (hr : Rest S mp S2 wr w') : PLA C w p mp room ga w' l2 S2 :=
  ⟨hp, hr.1 _ _ h.blk h.ng h.nm (fun c fr e => by injection e with _ e2; exact absurd e2 (by decide)), fun h2 => by
    rcases hr.2 _ h2 with h3 | h3
    · exact h.ng h3
    · have := lt_of_block h.blk
      omega, h.nm⟩
theorem PLA.cells (h : PLA C w p mp room ga wr l S) : wr.cell? ⟨ga, 0, none⟩ = some (dP p) ∧ wr.cell? ⟨ga, 1, none⟩ = some (dP mp) := ⟨by rw [blkA h.blk]; rfl, by rw [blkA h.blk]; rfl⟩
end
/-- The cells of the pair and of an act. -/
abbrev C7 (ga b o : Nat) (p mp : Nat) (op n : Int) (vs : Value) (t : Tx) (vk : Value) (w : World) : Prop :=
  w.cell? ⟨ga, 0, none⟩ = some (dP p) ∧ w.cell? ⟨ga, 1, none⟩ = some (dP mp) ∧ w.cell? ⟨b, o, none⟩ = some (.int .i64 op) ∧ w.cell? ⟨b, o + 1, none⟩ = some (.int .i64 n) ∧ w.cell? ⟨b, o + 2, none⟩ = some vs ∧ w.cell? ⟨b, o + 3, none⟩ = some (.string (B t)) ∧ w.cell? ⟨b, o + 4, none⟩ = some vk
theorem C7_drew {ga b o p mp : Nat} {op n : Int} {vs : Value} {t : Tx} {vk : Value} {w : World} (h : C7 ga b o p mp op n vs t vk w) : C7 ga b o p mp op n vs t vk w.drew := h
/-- The cells of the pair and of two manifests. -/
abbrev C6 (ga g1 g2 : Nat) (p mp : Nat) (n : Nat) (va vb : Value) (w1 w : World) : Prop :=
  w.cell? ⟨ga, 0, none⟩ = some (dP p) ∧ w.cell? ⟨ga, 1, none⟩ = some (dP mp) ∧ w.cell? ⟨g1, 0, none⟩ = some (.int .i64 (n : Int)) ∧ w.cell? ⟨g1, 1, none⟩ = some va ∧ w.cell? ⟨g2, 0, none⟩ = some (.int .i64 (n : Int)) ∧ w.cell? ⟨g2, 1, none⟩ = some vb ∧ KeptB w1 w
theorem C6_drew {ga g1 g2 p mp n : Nat} {va vb : Value} {w1 w : World} (h : C6 ga g1 g2 p mp n va vb w1 w) : C6 ga g1 g2 p mp n va vb w1 w.drew := ⟨h.1, h.2.1, h.2.2.1, h.2.2.2.1, h.2.2.2.2.1, h.2.2.2.2.2.1, keptB_drew h.2.2.2.2.2.2⟩
theorem C6_call {ga g1 g2 p mp n : Nat} {va vb : Value} {w1 w w2 : World} (h : C6 ga g1 g2 p mp n va vb w1 w) (hb : Below w.heap.size w w2) : C6 ga g1 g2 p mp n va vb w1 w2 := ⟨keepsA hb _ _ h.1, keepsA hb _ _ h.2.1, keepsA hb _ _ h.2.2.1, keepsA hb _ _ h.2.2.2.1, keepsA hb _ _ h.2.2.2.2.1, keepsA hb _ _ h.2.2.2.2.2.1, keptB_call h.2.2.2.2.2.2 hb⟩
set_option maxHeartbeats 16000000 in
set_option maxRecDepth 100000 in
theorem plays_walk (C : D.DC) (room : Int) (acs : List Ac) (vl : Value) (w : World) (hr : i64B room) (hv : ReadsA w vl acs) :
    Calls Tryz.prog 3 #[.int .i64 room, vl] w fun x w' => x = .returned (.bool true) ∧ Below w.heap.size w w' := by
  have HA := Lib.hid hv
  obtain ⟨aa, ca, rfl, hx⟩ := hv
  have HX := Lib.hid hx
  clear hx
  obtain ⟨kk, hkk⟩ : ∃ kk, pickN room 2000 = kk := ⟨_, rfl⟩
  have hkl : kk < 2000 := by rw [← hkk]; exact pickN_lt _ (by omega)
  have HKK := Lib.hid hkk
  clear hkk
  go_enter Tryz.func3, Tryz.ntmps3
  go_wp2_with fail
  refine (shown10_l C w).mono ?_
  rintro x w1 ⟨rfl, hb1⟩
  have HB1 := Lib.hid hb1
  clear hb1
  go_wp2_with fail
  refine (small10_l acs _ w1 (readsA_below HA.out HB1.out)).mono ?_
  rintro x w1' ⟨hok, rfl⟩
  have HOK : Hid (x = .returned (.bool true) → acs.length ≤ 60 ∧ ∀ i (h : i < acs.length), acs[i].segs.length ≤ 60 ∧ acs[i].text.length ≤ 1000 ∧ acs[i].keep.length ≤ 30) := Lib.hid fun h => by
    rcases hok with h1 | ⟨-, h2⟩
    · rw [h] at h1; cases h1
    · exact h2
  obtain ⟨ok, rfl⟩ : ∃ ok, x = .returned (.bool ok) := by rcases hok with h | ⟨h, -⟩ <;> exact ⟨_, h⟩
  clear hok
  go_wp2_with fail
  refine (pick10_l room 2000 kk w1' hr (by omega) (by omega) HKK).mono ?_
  rintro x w1 ⟨rfl, rfl⟩
  have hrm : (10 : Int) + (kk : Int) = ((10 + kk : Nat) : Int) := by omega
  have HRM := Lib.hid hrm
  clear hrm
  go_wp2_with fail
  rw [HRM.out]
  obtain ⟨R, hR⟩ : ∃ R, 10 + kk = R := ⟨_, rfl⟩
  rw [hR]
  have hR1 : 10 ≤ R := by omega
  have hR2 : R ≤ 2100 := by omega
  clear hR HRM
  refine (begun10_l C (bs := w.heap.size) R w1 HB1.out.size (by omega) (by omega)).mono ?_
  rintro x w2 ⟨⟨p, mp, S, rfl, hd, hmb, hml, hmn⟩, hb2⟩
  have HB2 := Lib.hid (HB1.out.trans (hb2.mono HB1.out.size))
  have hal : Below w2.heap.size w2 (w2.alloc (.cells #[dP p, .pointer (some ⟨mp, 0, none⟩)] 28)) := (Below.refl _ _).alloc (Nat.le_refl _) _
  have hnew := heap_alloc_new w2 (.cells #[dP p, .pointer (some ⟨mp, 0, none⟩)] 28)
  have HO : Hid (PLA C w p mp R w2.heap.size (w2.alloc (.cells #[dP p, .pointer (some ⟨mp, 0, none⟩)] 28)) [] S) := Lib.hid
    ⟨PSA.below ⟨hd, ⟨hml, .slice none 0 0, hmb, rfl, .inl ⟨rfl, rfl⟩⟩, D.inv_nil _, (fun f hf => by cases hf), HB2.out, hmn⟩ hal, hnew, fun h => by have := (C.low hd h).2; omega, by have := lt_of_block hmb; omega⟩
  clear hd hb2 hal hnew HB1 HB2 hmb hml hmn
  go_upto_region 4 with (fail)
  generalize w2.alloc (.cells #[dP p, .pointer (some ⟨mp, 0, none⟩)] 28) = w3 at *
  generalize w2.heap.size = ga at *
  cases ok
  · go_wp2
    go_ret
    exact ⟨rfl, HO.out.ps.bel⟩
  obtain ⟨hl60, hsm⟩ := HOK.out rfl
  have HSM := Lib.hid hsm
  clear HOK hsm
  go_wp2
  go_loopw [9] (fun i wr => ∃ (k : Nat) (l : List F) (S : Nat → Prop), i = .int .i64 (k : Int) ∧ k ≤ acs.length ∧ Hid (PLA C w p mp R ga wr l S)) (fun i _ => acs.length - (intOf i).toNat)
  case atStart => exact ⟨0, [], S, rfl, Nat.zero_le _, HO⟩
  case round =>
    clear HO
    obtain ⟨k, l, S, rfl, hk, HP⟩ := hrel
    by_cases hlt : k < acs.length
    · have hi1 : (k : Int) < (acs.length : Int) := by omega
      obtain ⟨⟨hs, hkp, hop, hn, -⟩, b, o, rfl, c0, c1, c2, c3, c4⟩ := HX.out k hlt
      obtain ⟨hs1, hs2, hs3⟩ := HSM.out k hlt
      have HSG := Lib.hid hs
      have HKP := Lib.hid hkp
      obtain ⟨sa, sc, hsv, -⟩ := hs
      obtain ⟨ka, kc, hkv, -⟩ := hkp
      rw [hsv] at c2 HSG
      rw [hkv] at c4 HKP
      have HC0 := Lib.hid c0
      have HC1 := Lib.hid c1
      have HC2 := Lib.hid c2
      have HC3 := Lib.hid c3
      have HC4 := Lib.hid c4
      clear c0 c1 c2 c3 c4 hsv hkv
      obtain ⟨op, hope⟩ : ∃ op, acs[k].op = op := ⟨_, rfl⟩
      obtain ⟨n, hne⟩ : ∃ n, acs[k].n = n := ⟨_, rfl⟩
      obtain ⟨segs, hse⟩ : ∃ segs, acs[k].segs = segs := ⟨_, rfl⟩
      obtain ⟨tx, hte⟩ : ∃ tx, acs[k].text = tx := ⟨_, rfl⟩
      obtain ⟨ks, hke⟩ : ∃ ks, acs[k].keep = ks := ⟨_, rfl⟩
      rw [hope] at HC0 hop
      rw [hne] at HC1 hn
      rw [hse] at HC2 HSG hs1
      rw [hte] at HC3 hs2
      rw [hke] at HC4 HKP hs3
      clear hope hne hse hte hke
      have HQ : Hid (∀ V, PLA C w p mp R ga V l S ∨ (∃ l2 S2, PLA C w p mp R ga V l2 S2) → C7 ga b (o + k * 5) p mp op n (.slice sa segs.length sc) tx (.slice ka ks.length kc) V) := Lib.hid fun V hV => by
        obtain ⟨l2, S2, hV⟩ : ∃ l2 S2, PLA C w p mp R ga V l2 S2 := hV.elim (fun h => ⟨_, _, h⟩) id
        have hb := hV.ps.bel
        exact ⟨hV.cells.1, hV.cells.2, keepsA hb _ _ HC0.out, keepsA hb _ _ HC1.out, keepsA hb _ _ HC2.out, keepsA hb _ _ HC3.out, keepsA hb _ _ HC4.out⟩
      clear HC0 HC1 HC2 HC3 HC4
      go_upto_region 9 with (fail)
      have hS := HQ.out wr (.inl HP.out)
      refine wp_region_held_drew (S := C7 ga b (o + k * 5) p mp op n (.slice sa segs.length sc) tx (.slice ka ks.length kc)) (by kernel_rfl) ?_ (fun hHeld => ?_)
      · exact C7_drew hS
      refine take_wanted (i := 0) (v := ?_) rfl (by kernel_rfl) (by kernel_rfl) (by kernel_rfl) (fun _ _ _ h => h) (by rfl) ?_ (by assumption) ?_
      rotate_left
      · intro w hSw
        (try dsimp only at hSw)
        go_simp
        (try with_reducible rfl)
      simp only [Act.put, List.setIfInBounds_toArray, List.set_cons_zero, List.set_cons_succ]
      refine take_wanted (i := 1) (v := ?_) rfl (by kernel_rfl) (by kernel_rfl) (by kernel_rfl) (fun _ _ _ h => h) (by rfl) ?_ (by assumption) ?_
      rotate_left
      · intro w hSw
        (try dsimp only at hSw)
        go_simp
        (try with_reducible rfl)
      simp only [Act.put, List.setIfInBounds_toArray, List.set_cons_zero, List.set_cons_succ]
      refine take_wanted (i := 2) (v := ?_) rfl (by kernel_rfl) (by kernel_rfl) (by kernel_rfl) (fun _ _ _ h => h) (by rfl) ?_ (by assumption) ?_
      rotate_left
      · intro w hSw
        (try dsimp only at hSw)
        go_simp
        (try with_reducible rfl)
      simp only [Act.put, List.setIfInBounds_toArray, List.set_cons_zero, List.set_cons_succ]
      refine take_wanted (i := 3) (v := ?_) rfl (by kernel_rfl) (by kernel_rfl) (by kernel_rfl) (fun _ _ _ h => h) (by rfl) ?_ (by assumption) ?_
      rotate_left
      · intro w hSw
        (try dsimp only at hSw)
        go_simp
        (try with_reducible rfl)
      simp only [Act.put, List.setIfInBounds_toArray, List.set_cons_zero, List.set_cons_succ]
      refine take_wanted (i := 4) (v := ?_) rfl (by kernel_rfl) (by kernel_rfl) (by kernel_rfl) (fun _ _ _ h => h) (by rfl) ?_ (by assumption) ?_
      rotate_left
      · intro w hSw
        (try dsimp only at hSw)
        go_simp
        (try with_reducible rfl)
      simp only [Act.put, List.setIfInBounds_toArray, List.set_cons_zero, List.set_cons_succ]
      refine take_only (i := 5) (by kernel_rfl) rfl (by rfl) (fun K hK => ?_)
      go_simp
      go_at_call 8
      refine (goes10_l C p mp R op n segs sa sc tx ks ka kc _ l S HP.out.drew.ps (by omega) hop hn HSG.out HKP.out hs1 hs2 hs3).mono ?_
      rintro x w5 ⟨rfl, l5, S5, hp5, hr5⟩; have hpl5 := HP.out.drew.next hp5 hr5
      refine hK.out _ _ ?_ (fun hHeld => ?_)
      · exact HQ.out _ (.inr ⟨_, _, hpl5⟩)
      clear hK K
      refine take_wanted (i := 6) (v := ?_) rfl (by kernel_rfl) (by kernel_rfl) (by kernel_rfl) (fun _ _ _ h => h) (by rfl) ?_ (by assumption) ?_
      rotate_left
      · intro w hSw
        (try dsimp only at hSw)
        go_simp
        (try with_reducible rfl)
      simp only [Act.put, List.setIfInBounds_toArray, List.set_cons_zero, List.set_cons_succ]
      refine wpAnyH_done (by kernel_rfl) ?_ _
      clear hHeld hS HQ HP
      have HPL := Lib.hid hpl5
      clear hpl5 hp5 hr5 HSG HKP hop hn
      generalize l5 = l at *
      generalize S5 = S at *
      have k0 := HPL.out.cells.1
      have k1 := HPL.out.cells.2
      go_wp2_with fail
      refine (alike10_l C p mp R l S w5 HPL.out.ps.at_ HPL.out.ps.mat HPL.out.ps.inv (by omega) HPL.out.ps.nam).mono ?_
      rintro x w6 ⟨rfl, hb6⟩
      have HP6 := Lib.hid (HPL.out.below hb6)
      clear hb6 k0 k1 HPL
      have k0 := HP6.out.cells.1
      obtain ⟨⟨e, nn, sg⟩, hld⟩ : ∃ q, loadD l = q := ⟨_, rfl⟩
      obtain ⟨⟨ea, ek, eb⟩, hep⟩ : ∃ q, epochD l = q := ⟨_, rfl⟩
      have HLD := Lib.hid hld
      have HEP := Lib.hid hep
      have hsg : sg.length ≤ 1000 ∧ ∀ q ∈ sg, q ≤ 1099511627776 := by
        unfold loadD at hld
        cases hf : D.find fileN l with
        | none => rw [hf] at hld; cases hld; simp
        | some f =>
          rw [hf] at hld
          dsimp only at hld
          cases hlo : loadL f.data with
          | none => rw [hlo] at hld; cases hld; simp
          | some q =>
            obtain ⟨q1, q2⟩ := q
            rw [hlo] at hld
            cases hld
            have hrt := loadL_right hlo
            have h1 := (right_iff.1 hrt).2.1
            rw [castL_len] at h1
            refine ⟨by omega, fun q hq => ?_⟩
            have := right_segs hrt (q : Int) (by unfold castL; exact List.mem_map.2 ⟨q, hq, rfl⟩)
            omega
      have hsg1 := hsg.1
      have HSGB := Lib.hid hsg.2
      clear hld hep hsg
      go_wp2_with fail
      refine (Load_l C e nn sg HP6.out.ps.at_ HP6.out.ps.inv (by omega) HLD.out).mono ?_
      rintro x w7 ⟨⟨v7, rfl, hown⟩, hb7⟩
      obtain ⟨va, vc, hvv, -⟩ := reads_own hown
      rw [intCells_len] at hvv
      subst hvv
      have hal : Below w7.heap.size w7 (w7.alloc (.cells #[.int .i64 (nn : Int), .slice va sg.length vc] 37)) := (Below.refl _ _).alloc (Nat.le_refl _) _
      have HN8 := Lib.hid (heap_alloc_new w7 (.cells #[.int .i64 (nn : Int), .slice va sg.length vc] 37))
      have HP8 := Lib.hid ((HP6.out.below hb7).below hal)
      have HRA := Lib.hid (readsI_own (own_below hown hal) HSGB.out)
      clear hown hb7 hal k0 HP6 HSGB
      go_upto_region 12 with (fail)
      generalize w7.alloc (.cells #[.int .i64 (nn : Int), .slice va sg.length vc] 37) = w8 at *
      generalize w7.heap.size = g8 at *
      have k1 := HP8.out.cells.2
      go_wp2_with fail
      refine (rLoad_l e nn sg w8 HP8.out.ps.mat HP8.out.ps.inv (by omega) HLD.out).mono ?_
      rintro x w9 ⟨⟨v9, rfl, hrb⟩, hb9⟩
      obtain ⟨vd, vf, hvv, -⟩ : ∃ a c, v9 = .slice a sg.length c ∧ True := by obtain ⟨a, c, h, _⟩ := hrb; exact ⟨a, c, by rw [h, castL_len], trivial⟩
      subst hvv
      have hal : Below w9.heap.size w9 (w9.alloc (.cells #[.int .i64 (nn : Int), .slice vd sg.length vf] 41)) := (Below.refl _ _).alloc (Nat.le_refl _) _
      have HN10 := Lib.hid (heap_alloc_new w9 (.cells #[.int .i64 (nn : Int), .slice vd sg.length vf] 41))
      have HP10 := Lib.hid ((HP8.out.below hb9).below hal)
      have HRA10 := Lib.hid (readsI_below (readsI_below HRA.out hb9) hal)
      have HRB10 := Lib.hid (readsI_below hrb hal)
      have HN8b := Lib.hid ((hal.block g8 (Nat.lt_of_lt_of_le (lt_of_block HN8.out) hb9.size)).trans ((hb9.block g8 (lt_of_block HN8.out)).trans HN8.out))
      clear hrb hb9 hal k1 HP8 HRA HN8 HLD
      go_upto_region 13 with (fail)
      generalize w9.alloc (.cells #[.int .i64 (nn : Int), .slice vd sg.length vf] 41) = w10 at *
      generalize w9.heap.size = g10 at *
      have HSI : Hid (∀ V, KeptB w10 V → Calls Tryz.prog 12 #[.slice va sg.length vc, .slice vd sg.length vf] V fun x w' => x = .returned (.bool true) ∧ Below V.heap.size V w') := Lib.hid fun V hV => sameInts_l (castL sg) (castL sg) _ _ true V (readsI_below HRA10.out hV) (readsI_below HRB10.out hV) (by rw [castL_len]; omega) (Lib.hid (by simp))
      have HEC : Hid (∀ V, KeptB w10 V → Calls Tryz.prog 13 #[dP p] V fun x w' => x = .returned (.int .i64 (ea : Int)) ∧ Below V.heap.size V w') := Lib.hid fun V hV => Epoch_l C ea ek eb (HP10.out.below hV).ps.at_ HP10.out.ps.inv (by omega) HEP.out
      have HEM : Hid (∀ V, KeptB w10 V → Calls Tryz.prog 14 #[dP mp] V fun x w' => x = .returned (.int .i64 (ea : Int)) ∧ Below V.heap.size V w') := Lib.hid fun V hV => rEpoch_l ea ek eb V (HP10.out.below hV).ps.mat HP10.out.ps.inv (by omega) HEP.out
      obtain ⟨rt, hrt⟩ : ∃ rt, right (nn : Int) (castL sg) = rt := ⟨_, rfl⟩
      have HRT := Lib.hid hrt
      have HRC : Hid (∀ V, KeptB w10 V → Calls Tryz.prog 15 #[.agg #[.int .i64 (nn : Int), .slice va sg.length vc]] V fun x w' => x = .returned (.bool rt) ∧ Below V.heap.size V w') := Lib.hid fun V hV => Right_l (nn : Int) (castL sg) _ V rt (readsI_below HRA10.out hV) HRT
      have HRM : Hid (∀ V, KeptB w10 V → Calls Tryz.prog 16 #[.agg #[.int .i64 (nn : Int), .slice vd sg.length vf]] V fun x w' => x = .returned (.bool rt) ∧ Below V.heap.size V w') := Lib.hid fun V hV => rRight_l (nn : Int) (castL sg) _ V rt (readsI_below HRB10.out hV) (by rw [castL_len]; omega) HRT
      have hS : C6 ga g8 g10 p mp nn (.slice va sg.length vc) (.slice vd sg.length vf) w10 w10 := ⟨HP10.out.cells.1, HP10.out.cells.2, by rw [blkA HN8b.out]; rfl, by rw [blkA HN8b.out]; rfl, by rw [blkA HN10.out]; rfl, by rw [blkA HN10.out]; rfl, Below.refl _ _⟩
      clear hrt HRA10 HRB10 HN8b HN10 HEP HRT
      refine wp_region_held_drew (S := C6 ga g8 g10 p mp nn (.slice va sg.length vc) (.slice vd sg.length vf) w10) (by kernel_rfl) ?_ (fun hHeld => ?_)
      · exact C6_drew hS
      refine take_wanted (i := 0) (v := ?_) rfl (by kernel_rfl) (by kernel_rfl) (by kernel_rfl) (fun _ _ _ h => h) (by rfl) ?_ (by assumption) ?_
      rotate_left
      · intro w hSw
        (try dsimp only at hSw)
        go_simp
        (try with_reducible rfl)
      simp only [Act.put, List.setIfInBounds_toArray, List.set_cons_zero, List.set_cons_succ]
      refine take_wanted (i := 1) (v := .bool false) rfl (by kernel_rfl) (by kernel_rfl) (by kernel_rfl) (fun _ _ _ h => h) (by rfl) ?_ (by assumption) ?_
      · intro w hSw
        (try dsimp only at hSw)
        go_simp
        try simp
      simp only [Act.put, List.setIfInBounds_toArray, List.set_cons_zero, List.set_cons_succ]
      refine take_wanted (i := 2) (v := ?_) rfl (by kernel_rfl) (by kernel_rfl) (by kernel_rfl) (fun _ _ _ h => h) (by rfl) ?_ (by assumption) ?_
      rotate_left
      · intro w hSw
        (try dsimp only at hSw)
        go_simp
        (try with_reducible rfl)
      simp only [Act.put, List.setIfInBounds_toArray, List.set_cons_zero, List.set_cons_succ]
      refine take_wanted (i := 3) (v := ?_) rfl (by kernel_rfl) (by kernel_rfl) (by kernel_rfl) (fun _ _ _ h => h) (by rfl) ?_ (by assumption) ?_
      rotate_left
      · intro w hSw
        (try dsimp only at hSw)
        go_simp
        (try with_reducible rfl)
      simp only [Act.put, List.setIfInBounds_toArray, List.set_cons_zero, List.set_cons_succ]
      refine take_wanted (i := 4) (v := .bool false) rfl (by kernel_rfl) (by kernel_rfl) (by kernel_rfl) (fun _ _ _ h => h) (by rfl) ?_ (by assumption) ?_
      · intro w hSw
        (try dsimp only at hSw)
        go_simp
        try simp
      simp only [Act.put, List.setIfInBounds_toArray, List.set_cons_zero, List.set_cons_succ]
      refine take_wanted (i := 5) (v := ?_) rfl (by kernel_rfl) (by kernel_rfl) (by kernel_rfl) (fun _ _ _ h => h) (by rfl) ?_ (by assumption) ?_
      rotate_left
      · intro w hSw
        (try dsimp only at hSw)
        go_simp
        (try with_reducible rfl)
      simp only [Act.put, List.setIfInBounds_toArray, List.set_cons_zero, List.set_cons_succ]
      refine take_wanted (i := 6) (v := ?_) rfl (by kernel_rfl) (by kernel_rfl) (by kernel_rfl) (fun _ _ _ h => h) (by rfl) ?_ (by assumption) ?_
      rotate_left
      · intro w hSw
        (try dsimp only at hSw)
        go_simp
        (try with_reducible rfl)
      simp only [Act.put, List.setIfInBounds_toArray, List.set_cons_zero, List.set_cons_succ]
      refine take_wanted (i := 7) (v := ?_) rfl (by kernel_rfl) (by kernel_rfl) (by kernel_rfl) (fun _ _ _ h => h) (by rfl) ?_ (by assumption) ?_
      rotate_left
      · intro w hSw
        (try dsimp only at hSw)
        go_simp
        (try with_reducible rfl)
      simp only [Act.put, List.setIfInBounds_toArray, List.set_cons_zero, List.set_cons_succ]
      refine take_wanted (i := 8) (v := ?_) rfl (by kernel_rfl) (by kernel_rfl) (by kernel_rfl) (fun _ _ _ h => h) (by rfl) ?_ (by assumption) ?_
      rotate_left
      · intro w hSw
        (try dsimp only at hSw)
        go_simp
        (try with_reducible rfl)
      simp only [Act.put, List.setIfInBounds_toArray, List.set_cons_zero, List.set_cons_succ]
      refine take_wanted (i := 9) (v := ?_) rfl (by kernel_rfl) (by kernel_rfl) (by kernel_rfl) (fun _ _ _ h => h) (by rfl) ?_ (by assumption) ?_
      rotate_left
      · intro w hSw
        (try dsimp only at hSw)
        go_simp
        (try with_reducible rfl)
      simp only [Act.put, List.setIfInBounds_toArray, List.set_cons_zero, List.set_cons_succ]
      refine take_wanted (i := 10) (v := ?_) rfl (by kernel_rfl) (by kernel_rfl) (by kernel_rfl) (fun _ _ _ h => h) (by rfl) ?_ (by assumption) ?_
      rotate_left
      · intro w hSw
        (try dsimp only at hSw)
        go_simp
        (try with_reducible rfl)
      simp only [Act.put, List.setIfInBounds_toArray, List.set_cons_zero, List.set_cons_succ]
      refine take_wanted (i := 11) (v := .bool false) rfl (by kernel_rfl) (by kernel_rfl) (by kernel_rfl) (fun _ _ _ h => h) (by rfl) ?_ (by assumption) ?_
      · intro w hSw
        (try dsimp only at hSw)
        go_simp
        try simp
      simp only [Act.put, List.setIfInBounds_toArray, List.set_cons_zero, List.set_cons_succ]
      refine take_wanted (i := 12) (v := ?_) rfl (by kernel_rfl) (by kernel_rfl) (by kernel_rfl) (fun _ _ _ h => h) (by rfl) ?_ (by assumption) ?_
      rotate_left
      · intro w hSw
        (try dsimp only at hSw)
        go_simp
        (try with_reducible rfl)
      simp only [Act.put, List.setIfInBounds_toArray, List.set_cons_zero, List.set_cons_succ]
      refine take_wanted (i := 13) (v := ?_) rfl (by kernel_rfl) (by kernel_rfl) (by kernel_rfl) (fun _ _ _ h => h) (by rfl) ?_ (by assumption) ?_
      rotate_left
      · intro w hSw
        (try dsimp only at hSw)
        go_simp
        (try with_reducible rfl)
      simp only [Act.put, List.setIfInBounds_toArray, List.set_cons_zero, List.set_cons_succ]
      refine take_wanted (i := 14) (v := ?_) rfl (by kernel_rfl) (by kernel_rfl) (by kernel_rfl) (fun _ _ _ h => h) (by rfl) ?_ (by assumption) ?_
      rotate_left
      · intro w hSw
        (try dsimp only at hSw)
        go_simp
        (try with_reducible rfl)
      simp only [Act.put, List.setIfInBounds_toArray, List.set_cons_zero, List.set_cons_succ]
      refine take_wanted (i := 15) (v := ?_) rfl (by kernel_rfl) (by kernel_rfl) (by kernel_rfl) (fun _ _ _ h => h) (by rfl) ?_ (by assumption) ?_
      rotate_left
      · intro w hSw
        (try dsimp only at hSw)
        go_simp
        (try with_reducible rfl)
      simp only [Act.put, List.setIfInBounds_toArray, List.set_cons_zero, List.set_cons_succ]
      refine take_wanted (i := 16) (v := ?_) rfl (by kernel_rfl) (by kernel_rfl) (by kernel_rfl) (fun _ _ _ h => h) (by rfl) ?_ (by assumption) ?_
      rotate_left
      · intro w hSw
        (try dsimp only at hSw)
        go_simp
        (try with_reducible rfl)
      simp only [Act.put, List.setIfInBounds_toArray, List.set_cons_zero, List.set_cons_succ]
      refine take_wanted (i := 17) (v := ?_) rfl (by kernel_rfl) (by kernel_rfl) (by kernel_rfl) (fun _ _ _ h => h) (by rfl) ?_ (by assumption) ?_
      rotate_left
      · intro w hSw
        (try dsimp only at hSw)
        go_simp
        (try with_reducible rfl)
      simp only [Act.put, List.setIfInBounds_toArray, List.set_cons_zero, List.set_cons_succ]
      refine take_only (i := 18) (by kernel_rfl) rfl (by rfl) (fun K hK => ?_)
      go_simp
      go_at_call 12
      refine (HSI.out _ hHeld.2.2.2.2.2.2).mono ?_
      rintro x w11 ⟨rfl, hb11⟩
      refine hK.out _ _ ?_ (fun hHeld => ?_)
      · exact C6_call hHeld hb11
      clear hK K
      refine take_wanted (i := 19) (v := .bool false) rfl (by kernel_rfl) (by kernel_rfl) (by kernel_rfl) (fun _ _ _ h => h) (by rfl) ?_ (by assumption) ?_
      · intro w hSw
        (try dsimp only at hSw)
        go_simp
        try simp
      simp only [Act.put, List.setIfInBounds_toArray, List.set_cons_zero, List.set_cons_succ]
      refine take_wanted (i := 20) (v := ?_) rfl (by kernel_rfl) (by kernel_rfl) (by kernel_rfl) (fun _ _ _ h => h) (by rfl) ?_ (by assumption) ?_
      rotate_left
      · intro w hSw
        (try dsimp only at hSw)
        go_simp
        (try with_reducible rfl)
      simp only [Act.put, List.setIfInBounds_toArray, List.set_cons_zero, List.set_cons_succ]
      refine take_wanted (i := 21) (v := ?_) rfl (by kernel_rfl) (by kernel_rfl) (by kernel_rfl) (fun _ _ _ h => h) (by rfl) ?_ (by assumption) ?_
      rotate_left
      · intro w hSw
        (try dsimp only at hSw)
        go_simp
        (try with_reducible rfl)
      simp only [Act.put, List.setIfInBounds_toArray, List.set_cons_zero, List.set_cons_succ]
      refine take_wanted (i := 22) (v := ?_) rfl (by kernel_rfl) (by kernel_rfl) (by kernel_rfl) (fun _ _ _ h => h) (by rfl) ?_ (by assumption) ?_
      rotate_left
      · intro w hSw
        (try dsimp only at hSw)
        go_simp
        (try with_reducible rfl)
      simp only [Act.put, List.setIfInBounds_toArray, List.set_cons_zero, List.set_cons_succ]
      refine take_wanted (i := 23) (v := ?_) rfl (by kernel_rfl) (by kernel_rfl) (by kernel_rfl) (fun _ _ _ h => h) (by rfl) ?_ (by assumption) ?_
      rotate_left
      · intro w hSw
        (try dsimp only at hSw)
        go_simp
        (try with_reducible rfl)
      simp only [Act.put, List.setIfInBounds_toArray, List.set_cons_zero, List.set_cons_succ]
      refine take_wanted (i := 24) (v := .bool false) rfl (by kernel_rfl) (by kernel_rfl) (by kernel_rfl) (fun _ _ _ h => h) (by rfl) ?_ (by assumption) ?_
      · intro w hSw
        (try dsimp only at hSw)
        go_simp
        try simp
      simp only [Act.put, List.setIfInBounds_toArray, List.set_cons_zero, List.set_cons_succ]
      refine take_wanted (i := 25) (v := ?_) rfl (by kernel_rfl) (by kernel_rfl) (by kernel_rfl) (fun _ _ _ h => h) (by rfl) ?_ (by assumption) ?_
      rotate_left
      · intro w hSw
        (try dsimp only at hSw)
        go_simp
        (try with_reducible rfl)
      simp only [Act.put, List.setIfInBounds_toArray, List.set_cons_zero, List.set_cons_succ]
      refine take_wanted (i := 26) (v := ?_) rfl (by kernel_rfl) (by kernel_rfl) (by kernel_rfl) (fun _ _ _ h => h) (by rfl) ?_ (by assumption) ?_
      rotate_left
      · intro w hSw
        (try dsimp only at hSw)
        go_simp
        (try with_reducible rfl)
      simp only [Act.put, List.setIfInBounds_toArray, List.set_cons_zero, List.set_cons_succ]
      refine take_wanted (i := 27) (v := ?_) rfl (by kernel_rfl) (by kernel_rfl) (by kernel_rfl) (fun _ _ _ h => h) (by rfl) ?_ (by assumption) ?_
      rotate_left
      · intro w hSw
        (try dsimp only at hSw)
        go_simp
        (try with_reducible rfl)
      simp only [Act.put, List.setIfInBounds_toArray, List.set_cons_zero, List.set_cons_succ]
      refine take_wanted (i := 28) (v := ?_) rfl (by kernel_rfl) (by kernel_rfl) (by kernel_rfl) (fun _ _ _ h => h) (by rfl) ?_ (by assumption) ?_
      rotate_left
      · intro w hSw
        (try dsimp only at hSw)
        go_simp
        (try with_reducible rfl)
      simp only [Act.put, List.setIfInBounds_toArray, List.set_cons_zero, List.set_cons_succ]
      refine take_wanted (i := 30) (v := ?_) rfl (by kernel_rfl) (by kernel_rfl) (by kernel_rfl) (fun _ _ _ h => h) (by rfl) ?_ (by assumption) ?_
      rotate_left
      · intro w hSw
        (try dsimp only at hSw)
        go_simp
        (try with_reducible rfl)
      simp only [Act.put, List.setIfInBounds_toArray, List.set_cons_zero, List.set_cons_succ]
      refine take_wanted (i := 31) (v := ?_) rfl (by kernel_rfl) (by kernel_rfl) (by kernel_rfl) (fun _ _ _ h => h) (by rfl) ?_ (by assumption) ?_
      rotate_left
      · intro w hSw
        (try dsimp only at hSw)
        go_simp
        (try with_reducible rfl)
      simp only [Act.put, List.setIfInBounds_toArray, List.set_cons_zero, List.set_cons_succ]
      refine take_only (i := 29) (by kernel_rfl) rfl (by rfl) (fun K hK => ?_)
      go_simp
      go_at_call 13
      refine (HEC.out _ hHeld.2.2.2.2.2.2).mono ?_
      rintro x w12 ⟨rfl, hb12⟩
      refine hK.out _ _ ?_ (fun hHeld => ?_)
      · exact C6_call hHeld hb12
      clear hK K
      refine take_only (i := 32) (by kernel_rfl) rfl (by rfl) (fun K hK => ?_)
      go_simp
      go_at_call 14
      refine (HEM.out _ hHeld.2.2.2.2.2.2).mono ?_
      rintro x w13 ⟨rfl, hb13⟩
      refine hK.out _ _ ?_ (fun hHeld => ?_)
      · exact C6_call hHeld hb13
      clear hK K
      refine take_wanted (i := 33) (v := .bool false) rfl (by kernel_rfl) (by kernel_rfl) (by kernel_rfl) (fun _ _ _ h => h) (by rfl) ?_ (by assumption) ?_
      · intro w hSw
        (try dsimp only at hSw)
        go_simp
        try simp
      simp only [Act.put, List.setIfInBounds_toArray, List.set_cons_zero, List.set_cons_succ]
      refine take_wanted (i := 34) (v := ?_) rfl (by kernel_rfl) (by kernel_rfl) (by kernel_rfl) (fun _ _ _ h => h) (by rfl) ?_ (by assumption) ?_
      rotate_left
      · intro w hSw
        (try dsimp only at hSw)
        go_simp
        (try with_reducible rfl)
      simp only [Act.put, List.setIfInBounds_toArray, List.set_cons_zero, List.set_cons_succ]
      refine take_wanted (i := 35) (v := ?_) rfl (by kernel_rfl) (by kernel_rfl) (by kernel_rfl) (fun _ _ _ h => h) (by rfl) ?_ (by assumption) ?_
      rotate_left
      · intro w hSw
        (try dsimp only at hSw)
        go_simp
        (try with_reducible rfl)
      simp only [Act.put, List.setIfInBounds_toArray, List.set_cons_zero, List.set_cons_succ]
      refine take_wanted (i := 36) (v := ?_) rfl (by kernel_rfl) (by kernel_rfl) (by kernel_rfl) (fun _ _ _ h => h) (by rfl) ?_ (by assumption) ?_
      rotate_left
      · intro w hSw
        (try dsimp only at hSw)
        go_simp
        (try with_reducible rfl)
      simp only [Act.put, List.setIfInBounds_toArray, List.set_cons_zero, List.set_cons_succ]
      refine take_wanted (i := 38) (v := ?_) rfl (by kernel_rfl) (by kernel_rfl) (by kernel_rfl) (fun _ _ _ h => h) (by rfl) ?_ (by assumption) ?_
      rotate_left
      · intro w hSw
        (try dsimp only at hSw)
        go_simp
        (try with_reducible rfl)
      simp only [Act.put, List.setIfInBounds_toArray, List.set_cons_zero, List.set_cons_succ]
      refine take_only (i := 37) (by kernel_rfl) rfl (by rfl) (fun K hK => ?_)
      go_simp
      go_at_call 15
      refine (HRC.out _ hHeld.2.2.2.2.2.2).mono ?_
      rintro x w14 ⟨rfl, hb14⟩
      refine hK.out _ _ ?_ (fun hHeld => ?_)
      · exact C6_call hHeld hb14
      clear hK K
      refine take_only (i := 39) (by kernel_rfl) rfl (by rfl) (fun K hK => ?_)
      go_simp
      go_at_call 16
      refine (HRM.out _ hHeld.2.2.2.2.2.2).mono ?_
      rintro x w15 ⟨rfl, hb15⟩
      refine hK.out _ _ ?_ (fun hHeld => ?_)
      · exact C6_call hHeld hb15
      clear hK K
      refine take_wanted (i := 40) (v := .bool false) rfl (by kernel_rfl) (by kernel_rfl) (by kernel_rfl) (fun _ _ _ h => h) (by rfl) ?_ (by assumption) ?_
      · intro w hSw
        (try dsimp only at hSw)
        go_simp
        try simp
      simp only [Act.put, List.setIfInBounds_toArray, List.set_cons_zero, List.set_cons_succ]
      refine take_wanted (i := 41) (v := ?_) rfl (by kernel_rfl) (by kernel_rfl) (by kernel_rfl) (fun _ _ _ h => h) (by rfl) ?_ (by assumption) ?_
      rotate_left
      · intro w hSw
        (try dsimp only at hSw)
        go_simp
        (try with_reducible rfl)
      simp only [Act.put, List.setIfInBounds_toArray, List.set_cons_zero, List.set_cons_succ]
      refine wpAnyH_done (by kernel_rfl) ?_ _
      have HP12 := Lib.hid (HP10.out.below hHeld.2.2.2.2.2.2)
      clear hHeld hS HP10 HSI HEC HEM HRC HRM
      go_wp2
      go_roundw
      case rel => exact ⟨k + 1, l, S, by go_num, by omega, HP12⟩
      case measure => simp [intOf]; omega
    · go_wp2
      go_ret
      exact ⟨rfl, HP.out.ps.bel⟩
end Go.Proofs.YtmfhipjceeijmaaGreat.A
