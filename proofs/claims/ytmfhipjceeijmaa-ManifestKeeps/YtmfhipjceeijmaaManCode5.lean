/-
  The manifest package: marksOf, keep, Raise, Epoch.
-/
import Derived.Test.YtmfhipjceeijmaaManCode4
namespace Go.Proofs.Ytmfhipjceeijmaa.A
open Go.RowKit
open D (Tx ReadsI i64B readsI_below dP)
attribute [local go_sem] ext_Bd ext_Bl ext_Bt toList_B add_B size_B get_Bt

theorem threeA {w : World} {g : Nat} {x y z : Value} {t : TypeId} (h : w.heap[g]? = some (.cells #[x, y, z] t (0, 0))) (a b c : Value) : (((w.setCell ⟨g, 0, none⟩ a).setCell ⟨g, 1, none⟩ b).setCell ⟨g, 2, none⟩ c).heap[g]? = some (.cells #[a, b, c] t (0, 0)) := by
  have h1 := setA (setA (setA h 0 a) 1 b) 2 c
  rw [h1]
  rfl
theorem below3 {w0 w : World} {g n : Nat} (h : Below n w0 w) (hg : n ≤ g) (a b c : Value) : Below n w0 (((w.setCell ⟨g, 0, none⟩ a).setCell ⟨g, 1, none⟩ b).setCell ⟨g, 2, none⟩ c) :=
  ⟨h.os, h.tape, h.output, by simpa using h.size, fun k hk => by rw [Below.heap_setCell _ _ _ _ (by show k ≠ g; omega), Below.heap_setCell _ _ _ _ (by show k ≠ g; omega), Below.heap_setCell _ _ _ _ (by show k ≠ g; omega)]; exact h.block k hk⟩
theorem below1 {w0 w : World} {g n : Nat} (h : Below n w0 w) (hg : n ≤ g) (j : Nat) (a : Value) : Below n w0 (w.setCell ⟨g, j, none⟩ a) :=
  ⟨h.os, h.tape, h.output, by simpa using h.size, fun k hk => by rw [Below.heap_setCell _ _ _ _ (by show k ≠ g; omega)]; exact h.block k hk⟩
theorem belowT {n : Nat} {a b c : World} (h : Below n a b) (k : Below b.heap.size b c) (hn : n ≤ b.heap.size) : Below n a c :=
  ⟨k.os.trans h.os, k.tape.trans h.tape, k.output.trans h.output, Nat.le_trans h.size k.size, fun i hi => (k.block i (by omega)).trans (h.block i hi)⟩
theorem marksF_at {l : List Tx} {i : Nat} (h : i < l.length) (a k : Nat) : marksF a k (l.drop i) = (match epochOf l[i] with | some e => if a < e then marksF e (k + 1) (l.drop (i + 1)) else (a, k, false) | none => (a, k, false)) := by
  rw [List.drop_eq_getElem_cons h]
  rfl
abbrev markV (a k : Nat) (b : Bool) : Array Value := #[.int .i64 (a : Int), .int .i64 (k : Int), .bool b]
section
variable (C : D.DC) {bs : Nat} {w : World} {p room : Nat} {l : List D.F} {S : Nat → Prop}
set_option maxRecDepth 100000 in
set_option maxHeartbeats 4000000 in
theorem marksOf_l (a k : Nat) (b : Bool) (hA : C.At bs w p room l S) (hI : D.Inv room l) (hroom : room ≤ 100000000) (H : epochD l = (a, k, b)) :
    Calls Try.prog 31 #[dP p] w fun x w' => x = .returned (.agg #[.int .i64 (a : Int), .int .i64 (k : Int), .bool b]) ∧ Below w.heap.size w w' := by
  obtain ⟨⟨s, er⟩, hrd⟩ : ∃ q, D.read markN l = q := ⟨_, rfl⟩
  have hsl : s.length ≤ 100000000 := by
    unfold D.read at hrd
    cases hf : D.find markN l with
    | none => rw [hf] at hrd; cases hrd; simp
    | some f => rw [hf] at hrd; cases hrd; have := data_le hI (D.find_some hf).1; omega
  have hmk : marksOf s = (a, k, b) := by unfold epochD at H; rw [hrd] at H; exact H
  have hpc := F.scan_count s
  have hwl := F.scan_le s
  have HM : Hid ((marksF 0 0 (F.scan s).1).1 = a ∧ (marksF 0 0 (F.scan s).1).2.1 = k ∧ ((marksF 0 0 (F.scan s).1).2.2 && decide ((F.scan s).2 = s.length)) = b) := Lib.hid (by
    unfold marksOf at hmk
    cases hmk
    exact ⟨rfl, rfl, rfl⟩)
  have HB := Lib.hid ((Below.refl w.heap.size w).alloc (Nat.le_refl _) (.cells #[.int .i64 0, .int .i64 0, .bool false] 73))
  have HC := Lib.hid (heap_alloc_new w (.cells #[.int .i64 0, .int .i64 0, .bool false] 73))
  have HA := Lib.hid (C.below hA HB.out)
  have HI := Lib.hid hI
  have HRD := Lib.hid hrd
  have HLT : Hid (w.heap.size < (w.alloc (.cells #[.int .i64 0, .int .i64 0, .bool false] 73)).heap.size) := Lib.hid (by simp)
  obtain ⟨rb, hrb⟩ : ∃ rb, w.heap.size = rb := ⟨_, rfl⟩
  rw [hrb] at HC HLT
  have HRB := Lib.hid hrb
  clear hrb hA hI H hrd hmk
  go_enter Try.func31, Try.ntmps31
  go_wp2_with fail
  rw [HRB.out]
  generalize w.alloc (.cells #[.int .i64 0, .int .i64 0, .bool false] 73) = W at *
  refine (bytesOf_l C markN s er (decide (er = 0)) HA.out HI.out hroom (by simp [markN]) HRD.out (Lib.hid rfl)).mono ?_
  rintro x w1 ⟨rfl, hb1⟩
  have HB1 := Lib.hid (HB.out.trans (hb1.mono HB.out.size))
  have HC1 := Lib.hid ((hb1.block rb HLT.out).trans HC.out)
  have hlt1 := Nat.lt_of_lt_of_le HLT.out hb1.size
  clear hb1 HB HC HLT HA
  generalize decide (er = 0) = bb at *
  go_wp2_with fail
  refine (FScan_l s w1 hsl).mono ?_
  rintro x w2 ⟨v, rfl, hown, hb2⟩
  have HB2 := Lib.hid (HB1.out.trans (hb2.mono HB1.out.size))
  have HC2 := Lib.hid ((hb2.block rb hlt1).trans HC1.out)
  have hlt2 := Nat.lt_of_lt_of_le hlt1 hb2.size
  clear hb2 HB1 HC1
  obtain ⟨ps, hps⟩ : ∃ ps, (F.scan s).1 = ps := ⟨_, rfl⟩
  obtain ⟨wl, hwl2⟩ : ∃ wl, (F.scan s).2 = wl := ⟨_, rfl⟩
  rw [hps] at hown HM hpc
  rw [hwl2] at HM hwl
  rw [hwl2]
  have HPL : Hid (∀ q ∈ ps, q.length ≤ 100000000) := Lib.hid fun q hq => by
    rw [← hps] at hq
    have : ∀ (f : Nat) (s : Tx), ∀ q ∈ (F.scanF f s).1, q.length ≤ 8000 := fun f => by
      induction f with
      | zero => intro s q hq; simp [F.scanF] at hq
      | succ f ih =>
        intro s q hq
        rcases F.take_cases s with ⟨e, h, _⟩ | ⟨p, r, h⟩
        · rw [F.scanF_bad h] at hq; cases hq
        · rw [F.scanF_ok h] at hq
          rcases List.mem_cons.1 hq with rfl | hq
          · exact (F.take_inv h).2.2
          · exact ih r q hq
    have := this _ _ q hq
    omega
  clear hps hwl2 hlt1
  obtain ⟨va, vc, hvv, hx⟩ := reads_own hown
  rw [strCells_len] at hvv hx
  subst hvv
  have HX := Lib.hid hx
  have hnew := heap_alloc_new w2 (.cells #[.int .i64 0, .int .i64 0, .bool false] 73)
  have HAL := Lib.hid ((Below.refl w2.heap.size w2).alloc (Nat.le_refl _) (.cells #[.int .i64 0, .int .i64 0, .bool false] 73))
  obtain ⟨gi, hgi⟩ : ∃ gi, w2.heap.size = gi := ⟨_, rfl⟩
  rw [hgi] at hnew HAL hlt2
  have HGI := Lib.hid hgi
  have HNW := Lib.hid hnew
  clear hx hown hgi hnew
  go_upto_region 4 with (fail)
  rw [HGI.out]
  generalize hw3 : w2.alloc (.cells #[.int .i64 0, .int .i64 0, .bool false] 73) = W3 at *
  clear hw3
  have HFIN : Hid (∀ (wr : World) (x y z : Value), Below gi w2 wr → gi < wr.heap.size → (wr.heap[rb]? = some (.cells #[.int .i64 0, .int .i64 0, .bool false] 73 (0, 0)) ∧ Below w.heap.size w (((wr.setCell ⟨rb, 0, none⟩ x).setCell ⟨rb, 1, none⟩ y).setCell ⟨rb, 2, none⟩ z))) := Lib.hid fun wr x y z hb hl => by
    have h1 : Below w.heap.size w wr := HB2.out.trans (by
      have := HB2.out.size
      refine ⟨hb.os, hb.tape, hb.output, hb.size, fun i hi => hb.block i ?_⟩
      have := HRB.out
      omega)
    exact ⟨(hb.block rb hlt2).trans HC2.out, below3 h1 (by rw [HRB.out]; exact Nat.le_refl _) x y z⟩
  go_wp2
  go_loopw [25] (fun i wr => ∃ (j a2 k2 : Nat), i = .int .i64 j ∧ j ≤ ps.length ∧ k2 ≤ j ∧ a2 ≤ 1099511627776 ∧ Hid (marksF a2 k2 (ps.drop j) = marksF 0 0 ps) ∧ Hid (Below gi w2 wr) ∧ Hid (wr.heap[gi]? = some (.cells #[.int .i64 (a2 : Int), .int .i64 (k2 : Int), .bool false] 73 (0, 0)))) (fun i _ => ps.length - (intOf i).toNat)
  case atStart => exact ⟨0, 0, 0, rfl, Nat.zero_le _, Nat.le_refl _, by omega, Lib.hid rfl, HAL, HNW⟩
  case round =>
    obtain ⟨j, a2, k2, rfl, hj, hk2, ha2, HMF, HBW, HG⟩ := hrel
    have hgl := lt_of_block HG.out
    by_cases hlt : j < ps.length
    · have hi1 : (j : Int) < (ps.length : Int) := by omega
      obtain ⟨b1, o1, rfl, hc⟩ := HX.out j hlt
      have hcell : wr.cell? ⟨b1, o1 + j, none⟩ = some (.string (B ps[j])) := by
        have h1 : w2.cell? ⟨b1, o1 + j, none⟩ = some (.string (B ps[j])) := by rw [hc]; simp [strCells, hlt]
        have h2 := World.block_lt_of_cell? w2 _ h1
        rw [World.cell?_of_block (w := w2) (HBW.out.block _ (by have := HGI.out; exact this ▸ h2))]
        exact h1
      have hq := HPL.out ps[j] (List.getElem_mem hlt)
      have HST := Lib.hid (marksF_at hlt a2 k2)
      clear hc
      generalize ps[j] = q at *
      go_wp2_with fail
      refine (epochOf_l q wr hq).mono ?_
      rintro x w4 ⟨⟨z, bz, rfl, hz, hez⟩, hb4⟩
      have HB4 := Lib.hid (belowT HBW.out hb4 (by omega))
      have HG4 := Lib.hid ((hb4.block gi hgl).trans HG.out)
      clear hb4 hcell
      have hgl4 := lt_of_block HG4.out
      have c0 := blkA HG4.out 0
      have c1 := blkA HG4.out 1
      have c2 := blkA HG4.out 2
      simp only [List.getElem?_toArray, List.getElem?_cons_zero, List.getElem?_cons_succ] at c0 c1 c2
      have hstop : ∀ (hs : marksF a2 k2 (ps.drop j) = (a2, k2, false)), a2 = a ∧ k2 = k ∧ b = false := fun hs => by
        have h1 := HM.out
        rw [← HMF.out, hs] at h1
        exact ⟨h1.1, h1.2.1, by simpa using h1.2.2.symm⟩
      have hfin := HFIN.out w4 (.int .i64 (a2 : Int)) (.int .i64 (k2 : Int)) (.bool false) HB4.out hgl4
      have r0 := blkA hfin.1 0
      have r1 := blkA hfin.1 1
      have r2 := blkA hfin.1 2
      simp only [List.getElem?_toArray, List.getElem?_cons_zero, List.getElem?_cons_succ] at r0 r1 r2
      have f0 := frzA hfin.1 0
      have f1 := frzA (setA hfin.1 0 (.int .i64 (a2 : Int))) 1
      have f2 := frzA (setA (setA hfin.1 0 (.int .i64 (a2 : Int))) 1 (.int .i64 (k2 : Int))) 2
      have HH := Lib.hid (And.intro (threeA hfin.1 (.int .i64 (a2 : Int)) (.int .i64 (k2 : Int)) (.bool false)) hfin.2)
      clear hfin
      cases bz
      · have hs := hstop (by rw [HST.out, hez, if_neg (by decide)])
        obtain ⟨rfl, rfl, rfl⟩ := hs
        clear hez hstop HST
        go_wp2
        have e0 := blkA HH.out.1 0
        have e1 := blkA HH.out.1 1
        have e2 := blkA HH.out.1 2
        simp only [List.getElem?_toArray, List.getElem?_cons_zero, List.getElem?_cons_succ] at e0 e1 e2
        exact bodyPost_ret (v := .agg #[.int .i64 (a2 : Int), .int .i64 (k2 : Int), .bool false]) (by simp [results, Try.results31, go_sem, e0, e1, e2]) rfl ⟨rfl, HH.out.2⟩
      · by_cases hle : a2 < z
        · have hzi : ¬ (z : Int) ≤ (a2 : Int) := by omega
          have HMF2 : Hid (marksF z (k2 + 1) (ps.drop (j + 1)) = marksF 0 0 ps) := Lib.hid (by rw [← HMF.out, HST.out, hez, if_pos rfl]; dsimp only; rw [if_pos hle])
          have g0 := frzA HG4.out 0
          have g1 := frzA (setA HG4.out 0 (.int .i64 (z : Int))) 1
          have d1 := blkA (setA HG4.out 0 (.int .i64 (z : Int))) 1
          simp at d1
          have HG5 : Hid (((w4.setCell ⟨gi, 0, none⟩ (.int .i64 (z : Int))).setCell ⟨gi, 1, none⟩ (.int .i64 ((k2 + 1 : Nat) : Int))).heap[gi]? = some (.cells #[.int .i64 (z : Int), .int .i64 ((k2 + 1 : Nat) : Int), .bool false] 73 (0, 0))) := Lib.hid (by rw [setA (setA HG4.out 0 (.int .i64 (z : Int))) 1 (.int .i64 ((k2 + 1 : Nat) : Int))]; rfl)
          have HB5 := Lib.hid (below1 (below1 HB4.out (Nat.le_refl _) 0 (.int .i64 (z : Int))) (Nat.le_refl _) 1 (.int .i64 ((k2 + 1 : Nat) : Int)))
          have hk2i : (k2 : Int) ≤ 100000000 := by omega
          have HK3 : Hid ((k2 : Int) + 1 = ((k2 + 1 : Nat) : Int)) := Lib.hid (by omega)
          clear hez hstop HST HH r0 r1 r2 f0 f1 f2 HMF
          go_wp2
          rw [HK3.out]
          go_roundw
          case rel => exact ⟨j + 1, z, k2 + 1, by go_num, by omega, by omega, hz, HMF2, HB5, HG5⟩
          case measure => simp [intOf]; omega
        · have hzi : (z : Int) ≤ (a2 : Int) := by omega
          have hs := hstop (by rw [HST.out, hez, if_pos rfl]; dsimp only; rw [if_neg hle])
          obtain ⟨rfl, rfl, rfl⟩ := hs
          clear hez hstop HST
          go_wp2
          have e0 := blkA HH.out.1 0
          have e1 := blkA HH.out.1 1
          have e2 := blkA HH.out.1 2
          simp only [List.getElem?_toArray, List.getElem?_cons_zero, List.getElem?_cons_succ] at e0 e1 e2
          exact bodyPost_ret (v := .agg #[.int .i64 (a2 : Int), .int .i64 (k2 : Int), .bool false]) (by simp [results, Try.results31, go_sem, e0, e1, e2]) rfl ⟨rfl, HH.out.2⟩
    · have hjn : ps.drop j = [] := List.drop_eq_nil_of_le (by omega)
      have hend : a2 = a ∧ k2 = k ∧ decide (wl = s.length) = b := by
        have h1 := HM.out
        rw [← HMF.out, hjn] at h1
        exact ⟨h1.1, h1.2.1, by simpa [marksF] using h1.2.2⟩
      obtain ⟨rfl, rfl, hbb⟩ := hend
      have HBB : Hid (decide (((wl : Nat) : Int) = ((s.length : Nat) : Int)) = b) := Lib.hid (by rw [← hbb]; exact decide_eq_decide.2 (by omega))
      clear hbb
      have c0 := blkA HG.out 0
      have c1 := blkA HG.out 1
      have c2 := blkA HG.out 2
      simp only [List.getElem?_toArray, List.getElem?_cons_zero, List.getElem?_cons_succ] at c0 c1 c2
      have g2 := frzA HG.out 2
      have HG2 : Hid ((wr.setCell ⟨gi, 2, none⟩ (.bool b)).heap[gi]? = some (.cells #[.int .i64 (a2 : Int), .int .i64 (k2 : Int), .bool b] 73 (0, 0))) := Lib.hid (by rw [setA HG.out 2 (.bool b)]; rfl)
      have hfin := HFIN.out (wr.setCell ⟨gi, 2, none⟩ (.bool b)) (.int .i64 (a2 : Int)) (.int .i64 (k2 : Int)) (.bool b) (below1 HBW.out (Nat.le_refl _) 2 (.bool b)) (by simpa using hgl)
      have k0 := blkA HG2.out 0
      have k1 := blkA HG2.out 1
      have k2' := blkA HG2.out 2
      simp only [List.getElem?_toArray, List.getElem?_cons_zero, List.getElem?_cons_succ] at k0 k1 k2'
      have r0 := blkA hfin.1 0
      have r1 := blkA hfin.1 1
      have r2 := blkA hfin.1 2
      simp only [List.getElem?_toArray, List.getElem?_cons_zero, List.getElem?_cons_succ] at r0 r1 r2
      have f0 := frzA hfin.1 0
      have f1 := frzA (setA hfin.1 0 (.int .i64 (a2 : Int))) 1
      have f2 := frzA (setA (setA hfin.1 0 (.int .i64 (a2 : Int))) 1 (.int .i64 (k2 : Int))) 2
      have HH := Lib.hid (And.intro (threeA hfin.1 (.int .i64 (a2 : Int)) (.int .i64 (k2 : Int)) (.bool b)) hfin.2)
      clear hfin HG2 HFIN HM
      cases b
      · have hbw : ((wl : Int) == (s.length : Int)) = false := by rw [← HBB.out]; rfl
        have hbn : ¬ wl = s.length := by have := HBB.out; rw [decide_eq_false_iff_not] at this; omega
        clear HBB
        go_wp2
        have e0 := blkA HH.out.1 0
        have e1 := blkA HH.out.1 1
        have e2 := blkA HH.out.1 2
        simp only [List.getElem?_toArray, List.getElem?_cons_zero, List.getElem?_cons_succ] at e0 e1 e2
        exact bodyPost_ret (v := .agg #[.int .i64 (a2 : Int), .int .i64 (k2 : Int), .bool false]) (by simp [results, Try.results31, go_sem, e0, e1, e2]) rfl ⟨rfl, HH.out.2⟩
      · have hbw : ((wl : Int) == (s.length : Int)) = true := by rw [← HBB.out]; rfl
        have hbn : wl = s.length := by have := HBB.out; rw [decide_eq_true_eq] at this; omega
        have HBN := Lib.hid hbn
        clear HBB hbn
        go_wp2
        have e0 := blkA HH.out.1 0
        have e1 := blkA HH.out.1 1
        have e2 := blkA HH.out.1 2
        simp only [List.getElem?_toArray, List.getElem?_cons_zero, List.getElem?_cons_succ] at e0 e1 e2
        exact bodyPost_ret (v := .agg #[.int .i64 (a2 : Int), .int .i64 (k2 : Int), .bool true]) (by simp [results, Try.results31, go_sem, e0, e1, e2]) rfl ⟨rfl, HH.out.2⟩
end
end Go.Proofs.Ytmfhipjceeijmaa.A
