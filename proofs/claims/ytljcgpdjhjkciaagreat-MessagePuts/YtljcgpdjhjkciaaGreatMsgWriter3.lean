/-
  The writer of package message: lists of numbers, marks, entries and events.
-/
import Derived.Test.YtljcgpdjhjkciaaGreatMsgWriter2
namespace Go.Proofs.YtljcgpdjhjkciaaGreat
open Go.RowKit
attribute [local go_sem] ext_Bd ext_Bl ext_Bt toList_B add_B size_B get_Bt

theorem len_put {n m : Nat} (h : n ≤ m) (hm : m ≤ 1000) : M.putI (n : Int) = N.putL n ∧ M.numR (n : Int) = true := by
  refine ⟨?_, ?_⟩
  · unfold M.putI
    rw [show N.held (n : Int) = n by unfold N.held; omega]
  · unfold M.numR M.large; simp; omega

set_option maxHeartbeats 1000000 in
set_option maxRecDepth 100000 in
theorem wr_list_int {p N0 : Nat} {o : St} {w w0 : World} (l : List Int) (v : Value) (most : Nat) (h : WrAt p o N0 w) (hb0 : Below w0.heap.size w0 w) (hp : w0.heap.size ≤ p) (hv : ReadsI w0 v l) (hm : most ≤ 100) (hl : N0 + 10 + most * 10 + 50000 ≤ 100000000) :
    Calls Tryz.prog 33 #[rdP p, v, .int .i64 most, .func (.func 34) #[rdP p] #[]] w fun x w' => x = .returned (.tuple #[]) ∧ WrAt p (put1 (decide (l.length ≤ most) && l.all M.numR) (N.putL l.length ++ l.flatMap M.putI) o) (N0 + 10 + most * 10) w' ∧ Wrote p w w' := by
  obtain ⟨a, cap, rfl, hx⟩ := hv
  have HX := Lib.hid hx
  have HB0 := Lib.hid hb0
  have HW := Lib.hid h
  by_cases hlm : l.length ≤ most
  · obtain ⟨hpi, hnr⟩ := len_put hlm (by omega)
    have HPI := Lib.hid hpi
    have HNR := Lib.hid hnr
    have HS0 := Lib.hid (listS_zero M.putI M.numR (N.putL l.length) l o)
    have HLL : Hid (l.length = l.length) := Lib.hid (by first | rfl | simp)
    have HS : Hid (∀ k (h : k < l.length), listS M.putI M.numR (N.putL l.length) l o (k + 1) = put1 (M.numR l[k]) (M.putI l[k]) (listS M.putI M.numR (N.putL l.length) l o k)) := Lib.hid fun k h => listS_step _ _ _ _ h
    have HE : Hid (∀ k, l.length ≤ k → listS M.putI M.numR (N.putL l.length) l o k = put1 (decide (l.length ≤ most) && l.all M.numR) (N.putL l.length ++ l.flatMap M.putI) o) := Lib.hid fun k h => by rw [listS_all _ _ _ _ h, decide_eq_true hlm, Bool.true_and]
    have hgt : ¬ (most : Int) < (l.length : Int) := by omega
    obtain ⟨S, HSD⟩ : ∃ S, Hid (listS M.putI M.numR (N.putL l.length) l o = S) := ⟨_, Lib.hid rfl⟩
    rw [HSD.out] at HS0 HS HE
    clear hx hb0 h hpi hnr HSD
    go_enter Tryz.func33, Tryz.ntmps33
    go_wp2_with fail
    refine (wr_number (l.length : Int) HW.out (by omega)).mono ?_
    rintro x w1 ⟨rfl, h1, h2⟩
    rw [HPI.out, HNR.out, ← HS0.out] at h1
    have H1 := Lib.hid h1
    have H2 := Lib.hid h2
    clear h1 h2
    go_wp2
    go_loopw [23] (fun i wr => ∃ k : Nat, i = .int .i64 k ∧ k ≤ l.length ∧ WrAt p (S k) (N0 + 10 + k * 10) wr ∧ Wrote p w wr) (fun i _ => l.length - (intOf i).toNat)
    case atStart => exact ⟨0, rfl, Nat.zero_le _, H1.out.mono (by omega), H2.out⟩
    case round =>
      obtain ⟨k, rfl, hk, hwr, hwt⟩ := hrel
      have HWR := Lib.hid hwr
      have HWT := Lib.hid hwt
      have hplt := hwr.lt
      by_cases hlt : k < l.length
      · have hk1 : (k : Int) < (l.length : Int) := by omega
        have hbr : Below w0.heap.size w0 wr := Wrote.below HB0.out hp hwt
        obtain ⟨_, b1, o1, rfl, e0⟩ := HX.out k hlt
        have x0 := below_keeps hbr _ _ e0
        clear e0 hbr
        have HST := Lib.hid (HS.out k (by first | exact hlt | (rw [HLL.out]; exact hlt)))
        generalize l[k] = z at *
        clear hwr hwt
        have HWN := Lib.hid (HWR.out)
        have HTN := Lib.hid (HWT.out)
        go_wp2_with fail
        refine (wr_number z HWN.out (by have : k * 10 ≤ most * 10 := Nat.mul_le_mul_right _ (by omega); omega)).mono ?_
        rintro x w2 ⟨rfl, h1, h2⟩
        have H3 := Lib.hid (h1.mono (show N0 + 10 + k * 10 + 10 ≤ N0 + 10 + (k + 1) * 10 by omega))
        have H4 := Lib.hid (HTN.out.trans h2)
        clear h1 h2
        go_wp2
        go_roundw
        case rel => exact ⟨k + 1, by go_num, by omega, by rw [HST.out]; exact H3.out, H4.out⟩
        case measure => simp [intOf]; omega
      · have HEE := Lib.hid (HE.out k (by first | omega | (rw [HLL.out]; omega)))
        have hkm : k * 10 ≤ most * 10 := Nat.mul_le_mul_right _ (by omega)
        clear hwr hwt
        go_wp2
        go_returns
        exact ⟨rfl, by rw [← HEE.out]; exact HWR.out.mono (by omega), HWT.out⟩
  · obtain ⟨wr, c1, l1⟩ := h.cells
    have hgt : (most : Int) < (l.length : Int) := by omega
    have HBD := Lib.hid (h.bad (N.putL l.length ++ l.flatMap M.putI))
    rw [decide_eq_false hlm, Bool.false_and]
    clear h hx hb0
    go_enter Tryz.func33, Tryz.ntmps33
    go_wp2
    go_returns
    exact ⟨rfl, HBD.out.mono (by omega), Wrote.of_set 1 _⟩

set_option maxHeartbeats 1000000 in
set_option maxRecDepth 100000 in
theorem wr_list_mark {p N0 : Nat} {o : St} {w w0 : World} (l : List R.Mk) (v : Value) (most : Nat) (h : WrAt p o N0 w) (hb0 : Below w0.heap.size w0 w) (hp : w0.heap.size ≤ p) (hv : ReadsM w0 v l) (hm : most ≤ 100) (hl : N0 + 10 + most * 100 + 50000 ≤ 100000000) :
    Calls Tryz.prog 35 #[rdP p, v, .int .i64 most, .func (.func 36) #[rdP p] #[]] w fun x w' => x = .returned (.tuple #[]) ∧ WrAt p (put1 (decide (l.length ≤ most) && l.all (fun m => M.numR m.1 && M.numR m.2)) (N.putL l.length ++ l.flatMap M.putM) o) (N0 + 10 + most * 100) w' ∧ Wrote p w w' := by
  obtain ⟨a, cap, rfl, hx⟩ := hv
  have HX := Lib.hid hx
  have HB0 := Lib.hid hb0
  have HW := Lib.hid h
  by_cases hlm : l.length ≤ most
  · obtain ⟨hpi, hnr⟩ := len_put hlm (by omega)
    have HPI := Lib.hid hpi
    have HNR := Lib.hid hnr
    have HS0 := Lib.hid (listS_zero M.putM (fun m => M.numR m.1 && M.numR m.2) (N.putL l.length) l o)
    have HLL : Hid (l.length = l.length) := Lib.hid (by first | rfl | simp)
    have HS : Hid (∀ k (h : k < l.length), listS M.putM (fun m => M.numR m.1 && M.numR m.2) (N.putL l.length) l o (k + 1) = put1 ((fun m => M.numR m.1 && M.numR m.2) l[k]) (M.putM l[k]) (listS M.putM (fun m => M.numR m.1 && M.numR m.2) (N.putL l.length) l o k)) := Lib.hid fun k h => listS_step _ _ _ _ h
    have HE : Hid (∀ k, l.length ≤ k → listS M.putM (fun m => M.numR m.1 && M.numR m.2) (N.putL l.length) l o k = put1 (decide (l.length ≤ most) && l.all (fun m => M.numR m.1 && M.numR m.2)) (N.putL l.length ++ l.flatMap M.putM) o) := Lib.hid fun k h => by rw [listS_all _ _ _ _ h, decide_eq_true hlm, Bool.true_and]
    have hgt : ¬ (most : Int) < (l.length : Int) := by omega
    obtain ⟨S, HSD⟩ : ∃ S, Hid (listS M.putM (fun m => M.numR m.1 && M.numR m.2) (N.putL l.length) l o = S) := ⟨_, Lib.hid rfl⟩
    rw [HSD.out] at HS0 HS HE
    clear hx hb0 h hpi hnr HSD
    go_enter Tryz.func35, Tryz.ntmps35
    go_wp2_with fail
    refine (wr_number (l.length : Int) HW.out (by omega)).mono ?_
    rintro x w1 ⟨rfl, h1, h2⟩
    rw [HPI.out, HNR.out, ← HS0.out] at h1
    have H1 := Lib.hid h1
    have H2 := Lib.hid h2
    clear h1 h2
    go_wp2
    go_loopw [23] (fun i wr => ∃ k : Nat, i = .int .i64 k ∧ k ≤ l.length ∧ WrAt p (S k) (N0 + 10 + k * 100) wr ∧ Wrote p w wr) (fun i _ => l.length - (intOf i).toNat)
    case atStart => exact ⟨0, rfl, Nat.zero_le _, H1.out.mono (by omega), H2.out⟩
    case round =>
      obtain ⟨k, rfl, hk, hwr, hwt⟩ := hrel
      have HWR := Lib.hid hwr
      have HWT := Lib.hid hwt
      have hplt := hwr.lt
      by_cases hlt : k < l.length
      · have hk1 : (k : Int) < (l.length : Int) := by omega
        have hbr : Below w0.heap.size w0 wr := Wrote.below HB0.out hp hwt
        obtain ⟨b1, o1, rfl, e0, e1⟩ := HX.out.2.2 k hlt
        have x0 := below_keeps hbr _ _ e0
        have x1 := below_keeps hbr _ _ e1
        clear e0 e1 hbr
        have HST := Lib.hid (HS.out k (by first | exact hlt | (rw [HLL.out]; exact hlt)))
        generalize l[k] = z at *
        clear hwr hwt
        have HWN := Lib.hid (HWR.out.new (.cells #[.int .i64 z.1, .int .i64 z.2] 87))
        have HTN := Lib.hid (HWT.out.new hplt (.cells #[.int .i64 z.1, .int .i64 z.2] 87))
        go_wp2_with fail
        refine (wr_mark z HWN.out (by have : k * 100 ≤ most * 100 := Nat.mul_le_mul_right _ (by omega); omega)).mono ?_
        rintro x w2 ⟨rfl, h1, h2⟩
        have H3 := Lib.hid (h1.mono (show N0 + 10 + k * 100 + 100 ≤ N0 + 10 + (k + 1) * 100 by omega))
        have H4 := Lib.hid (HTN.out.trans h2)
        clear h1 h2
        go_wp2
        go_roundw
        case rel => exact ⟨k + 1, by go_num, by omega, by rw [HST.out]; exact H3.out, H4.out⟩
        case measure => simp [intOf]; omega
      · have HEE := Lib.hid (HE.out k (by first | omega | (rw [HLL.out]; omega)))
        have hkm : k * 100 ≤ most * 100 := Nat.mul_le_mul_right _ (by omega)
        clear hwr hwt
        go_wp2
        go_returns
        exact ⟨rfl, by rw [← HEE.out]; exact HWR.out.mono (by omega), HWT.out⟩
  · obtain ⟨wr, c1, l1⟩ := h.cells
    have hgt : (most : Int) < (l.length : Int) := by omega
    have HBD := Lib.hid (h.bad (N.putL l.length ++ l.flatMap M.putM))
    rw [decide_eq_false hlm, Bool.false_and]
    clear h hx hb0
    go_enter Tryz.func35, Tryz.ntmps35
    go_wp2
    go_returns
    exact ⟨rfl, HBD.out.mono (by omega), Wrote.of_set 1 _⟩

set_option maxHeartbeats 1000000 in
set_option maxRecDepth 100000 in
theorem wr_list_event {p N0 : Nat} {o : St} {w w0 : World} (l : List E.Ev) (v : Value) (most : Nat) (h : WrAt p o N0 w) (hb0 : Below w0.heap.size w0 w) (hp : w0.heap.size ≤ p) (hv : ReadsE w0 v l) (hm : most ≤ 100) (hl : N0 + 10 + most * 2012 + 50000 ≤ 100000000) (hsz : ∀ e ∈ l, e.1.length ≤ 9223372036854775807 ∧ e.2.length ≤ 9223372036854775807) :
    Calls Tryz.prog 43 #[rdP p, v, .int .i64 most, .func (.func 44) #[rdP p] #[]] w fun x w' => x = .returned (.tuple #[]) ∧ WrAt p (put1 (decide (l.length ≤ most) && l.all E.right) (N.putL l.length ++ l.flatMap E.putEv) o) (N0 + 10 + most * 2012) w' ∧ Wrote p w w' := by
  obtain ⟨a, cap, rfl, hx⟩ := hv
  have HX := Lib.hid hx
  have HB0 := Lib.hid hb0
  have HW := Lib.hid h
  by_cases hlm : l.length ≤ most
  · obtain ⟨hpi, hnr⟩ := len_put hlm (by omega)
    have HPI := Lib.hid hpi
    have HNR := Lib.hid hnr
    have HS0 := Lib.hid (listS_zero E.putEv E.right (N.putL l.length) l o)
    have HLL : Hid (l.length = l.length) := Lib.hid (by first | rfl | simp)
    have HS : Hid (∀ k (h : k < l.length), listS E.putEv E.right (N.putL l.length) l o (k + 1) = put1 (E.right l[k]) (E.putEv l[k]) (listS E.putEv E.right (N.putL l.length) l o k)) := Lib.hid fun k h => listS_step _ _ _ _ h
    have HE : Hid (∀ k, l.length ≤ k → listS E.putEv E.right (N.putL l.length) l o k = put1 (decide (l.length ≤ most) && l.all E.right) (N.putL l.length ++ l.flatMap E.putEv) o) := Lib.hid fun k h => by rw [listS_all _ _ _ _ h, decide_eq_true hlm, Bool.true_and]
    have hgt : ¬ (most : Int) < (l.length : Int) := by omega
    obtain ⟨S, HSD⟩ : ∃ S, Hid (listS E.putEv E.right (N.putL l.length) l o = S) := ⟨_, Lib.hid rfl⟩
    rw [HSD.out] at HS0 HS HE
    clear hx hb0 h hpi hnr HSD
    go_enter Tryz.func43, Tryz.ntmps43
    go_wp2_with fail
    refine (wr_number (l.length : Int) HW.out (by omega)).mono ?_
    rintro x w1 ⟨rfl, h1, h2⟩
    rw [HPI.out, HNR.out, ← HS0.out] at h1
    have H1 := Lib.hid h1
    have H2 := Lib.hid h2
    clear h1 h2
    go_wp2
    go_loopw [23] (fun i wr => ∃ k : Nat, i = .int .i64 k ∧ k ≤ l.length ∧ WrAt p (S k) (N0 + 10 + k * 2012) wr ∧ Wrote p w wr) (fun i _ => l.length - (intOf i).toNat)
    case atStart => exact ⟨0, rfl, Nat.zero_le _, H1.out.mono (by omega), H2.out⟩
    case round =>
      obtain ⟨k, rfl, hk, hwr, hwt⟩ := hrel
      have HWR := Lib.hid hwr
      have HWT := Lib.hid hwt
      have hplt := hwr.lt
      by_cases hlt : k < l.length
      · have hk1 : (k : Int) < (l.length : Int) := by omega
        have hbr : Below w0.heap.size w0 wr := Wrote.below HB0.out hp hwt
        obtain ⟨b1, o1, rfl, e0, e1⟩ := HX.out.2.2 k hlt
        have x0 := below_keeps hbr _ _ e0
        have x1 := below_keeps hbr _ _ e1
        have hz := hsz _ (List.getElem_mem hlt)
        clear e0 e1 hbr
        have HST := Lib.hid (HS.out k (by first | exact hlt | (rw [HLL.out]; exact hlt)))
        generalize l[k] = z at *
        clear hwr hwt
        have HWN := Lib.hid (HWR.out.new (.cells #[.string (B z.1), .string (B z.2)] 55))
        have HTN := Lib.hid (HWT.out.new hplt (.cells #[.string (B z.1), .string (B z.2)] 55))
        go_wp2_with fail
        refine (wr_event z HWN.out (by have : k * 2012 ≤ most * 2012 := Nat.mul_le_mul_right _ (by omega); omega) hz.1 hz.2).mono ?_
        rintro x w2 ⟨rfl, h1, h2⟩
        have H3 := Lib.hid (h1.mono (show N0 + 10 + k * 2012 + 2012 ≤ N0 + 10 + (k + 1) * 2012 by omega))
        have H4 := Lib.hid (HTN.out.trans h2)
        clear h1 h2
        go_wp2
        go_roundw
        case rel => exact ⟨k + 1, by go_num, by omega, by rw [HST.out]; exact H3.out, H4.out⟩
        case measure => simp [intOf]; omega
      · have HEE := Lib.hid (HE.out k (by first | omega | (rw [HLL.out]; omega)))
        have hkm : k * 2012 ≤ most * 2012 := Nat.mul_le_mul_right _ (by omega)
        clear hwr hwt
        go_wp2
        go_returns
        exact ⟨rfl, by rw [← HEE.out]; exact HWR.out.mono (by omega), HWT.out⟩
  · obtain ⟨wr, c1, l1⟩ := h.cells
    have hgt : (most : Int) < (l.length : Int) := by omega
    have HBD := Lib.hid (h.bad (N.putL l.length ++ l.flatMap E.putEv))
    rw [decide_eq_false hlm, Bool.false_and]
    clear h hx hb0
    go_enter Tryz.func43, Tryz.ntmps43
    go_wp2
    go_returns
    exact ⟨rfl, HBD.out.mono (by omega), Wrote.of_set 1 _⟩

set_option maxHeartbeats 1000000 in
set_option maxRecDepth 100000 in
theorem wr_list_entry {p N0 : Nat} {o : St} {w w0 : World} (l : List EV) (v : Value) (most : Nat) (h : WrAt p o N0 w) (hb0 : Below w0.heap.size w0 w) (hp : w0.heap.size ≤ p) (hv : ReadsR w0 v l) (hm : most ≤ 100) (hl : N0 + 10 + most * 20012 + 50000 ≤ 100000000) (hsz : ∀ e ∈ l, E.Small e.1.b) :
    Calls Tryz.prog 37 #[rdP p, v, .int .i64 most, .func (.func 38) #[rdP p] #[]] w fun x w' => x = .returned (.tuple #[]) ∧ WrAt p (put1 (decide (l.length ≤ most) && (ensOf l).all R.right) (N.putL l.length ++ (ensOf l).flatMap R.putEn) o) (N0 + 10 + most * 20012) w' ∧ Wrote p w w' := by
  obtain ⟨a, cap, rfl, hx⟩ := hv
  have HX := Lib.hid hx
  have HB0 := Lib.hid hb0
  have HW := Lib.hid h
  by_cases hlm : l.length ≤ most
  · obtain ⟨hpi, hnr⟩ := len_put hlm (by omega)
    have HPI := Lib.hid hpi
    have HNR := Lib.hid hnr
    have HS0 := Lib.hid (listS_zero R.putEn R.right (N.putL l.length) (ensOf l) o)
    have HLL : Hid ((ensOf l).length = l.length) := Lib.hid (by first | rfl | simp)
    have HS : Hid (∀ k (h : k < (ensOf l).length), listS R.putEn R.right (N.putL l.length) (ensOf l) o (k + 1) = put1 (R.right (ensOf l)[k]) (R.putEn (ensOf l)[k]) (listS R.putEn R.right (N.putL l.length) (ensOf l) o k)) := Lib.hid fun k h => listS_step _ _ _ _ h
    have HE : Hid (∀ k, (ensOf l).length ≤ k → listS R.putEn R.right (N.putL l.length) (ensOf l) o k = put1 (decide (l.length ≤ most) && (ensOf l).all R.right) (N.putL l.length ++ (ensOf l).flatMap R.putEn) o) := Lib.hid fun k h => by rw [listS_all _ _ _ _ h, decide_eq_true hlm, Bool.true_and]
    have hgt : ¬ (most : Int) < (l.length : Int) := by omega
    obtain ⟨S, HSD⟩ : ∃ S, Hid (listS R.putEn R.right (N.putL l.length) (ensOf l) o = S) := ⟨_, Lib.hid rfl⟩
    rw [HSD.out] at HS0 HS HE
    clear hx hb0 h hpi hnr HSD
    go_enter Tryz.func37, Tryz.ntmps37
    go_wp2_with fail
    refine (wr_number (l.length : Int) HW.out (by omega)).mono ?_
    rintro x w1 ⟨rfl, h1, h2⟩
    rw [HPI.out, HNR.out, ← HS0.out] at h1
    have H1 := Lib.hid h1
    have H2 := Lib.hid h2
    clear h1 h2
    go_wp2
    go_loopw [23] (fun i wr => ∃ k : Nat, i = .int .i64 k ∧ k ≤ l.length ∧ WrAt p (S k) (N0 + 10 + k * 20012) wr ∧ Wrote p w wr) (fun i _ => l.length - (intOf i).toNat)
    case atStart => exact ⟨0, rfl, Nat.zero_le _, H1.out.mono (by omega), H2.out⟩
    case round =>
      obtain ⟨k, rfl, hk, hwr, hwt⟩ := hrel
      have HWR := Lib.hid hwr
      have HWT := Lib.hid hwt
      have hplt := hwr.lt
      by_cases hlt : k < l.length
      · have hk1 : (k : Int) < (l.length : Int) := by omega
        have hbr : Below w0.heap.size w0 wr := Wrote.below HB0.out hp hwt
        obtain ⟨hre, -, b1, o1, rfl, hat7⟩ := HX.out.2.2 k hlt
        have h7 := hat7.keep (below_keeps hbr)
        have hre2 := readsE_below hre hbr
        have hz := hsz _ (List.getElem_mem hlt)
        have hen : (ensOf l)[k]'(by first | exact hlt | (rw [HLL.out]; exact hlt)) = l[k].1 := by simp
        clear hat7 hre
        have HST := Lib.hid (HS.out k (by first | exact hlt | (rw [HLL.out]; exact hlt)))
        rw [hen] at HST
        clear hen
        generalize l[k] = zz at *
        obtain ⟨⟨pos, ep, ⟨st, ex, se, sq, evs⟩⟩, u⟩ := zz
        dsimp only at h7 hre2 hz HST
        have HRE := Lib.hid hre2
        have HZ := Lib.hid hz
        obtain ⟨ea, ec, rfl, -⟩ := hre2
        obtain ⟨x0, x1, x2, x3, x4, x5, x6⟩ := h7
        clear hbr hz
        clear hwr hwt
        have HWN := Lib.hid (HWR.out.new (.cells #[.int .i64 pos, .int .i64 ep, .string (B st), .int .i64 ex, .int .i64 se, .int .i64 sq, .slice ea evs.length ec] 53))
        have HTN := Lib.hid (HWT.out.new hplt (.cells #[.int .i64 pos, .int .i64 ep, .string (B st), .int .i64 ex, .int .i64 se, .int .i64 sq, .slice ea evs.length ec] 53))
        go_wp2_with fail
        refine (wr_entry ⟨pos, ep, ⟨st, ex, se, sq, evs⟩⟩ _ HWN.out (by have : k * 20012 ≤ most * 20012 := Nat.mul_le_mul_right _ (by omega); omega) (readsE_below HRE.out ((Below.refl _ wr).alloc (Nat.le_refl _) _)) HZ.out).mono ?_
        rintro x w2 ⟨rfl, h1, h2⟩
        have H3 := Lib.hid (h1.mono (show N0 + 10 + k * 20012 + 20012 ≤ N0 + 10 + (k + 1) * 20012 by omega))
        have H4 := Lib.hid (HTN.out.trans h2)
        clear h1 h2
        go_wp2
        go_roundw
        case rel => exact ⟨k + 1, by go_num, by omega, by rw [HST.out]; exact H3.out, H4.out⟩
        case measure => simp [intOf]; omega
      · have HEE := Lib.hid (HE.out k (by first | omega | (rw [HLL.out]; omega)))
        have hkm : k * 20012 ≤ most * 20012 := Nat.mul_le_mul_right _ (by omega)
        clear hwr hwt
        go_wp2
        go_returns
        exact ⟨rfl, by rw [← HEE.out]; exact HWR.out.mono (by omega), HWT.out⟩
  · obtain ⟨wr, c1, l1⟩ := h.cells
    have hgt : (most : Int) < (l.length : Int) := by omega
    have HBD := Lib.hid (h.bad (N.putL l.length ++ (ensOf l).flatMap R.putEn))
    rw [decide_eq_false hlm, Bool.false_and]
    clear h hx hb0
    go_enter Tryz.func37, Tryz.ntmps37
    go_wp2
    go_returns
    exact ⟨rfl, HBD.out.mono (by omega), Wrote.of_set 1 _⟩
end Go.Proofs.YtljcgpdjhjkciaaGreat
