/-
  Walks of the document's answer to layer 1 (package bucketlineref1): blank, quoted, bare, Line.
-/
import Derived.Test.YtnaabapahblhmaaR6
import Derived.Test.YtnaabapahblhmaaW12
namespace Go.Proofs.Ytnaabapahblhmaa
open Go.RowKit
theorem add_blank (l : List UInt8) : B l ++ (⟨#[32]⟩ : ByteArray) = B (l ++ [32]) := add_B l [32]
attribute [local go_sem] ext_Bd ext_Bl ext_Bt toList_B add_B size_B get_Bt add_blank

set_option maxHeartbeats 400000 in
theorem blank_l (c : UInt8) (w : World) : Calls Try.prog 36 #[.int .u8 c.toNat] w fun e w' => e = .returned (.bool (T.gapB c)) ∧ w = w' := by
  have hg := gapB_int c
  have HG := Lib.hid hg; clear hg
  have hc := c.toNat_lt
  by_cases h : c.toNat = 32
  · have hb : ((c.toNat : Int) == 32) = true := by simp; omega
    have H := Lib.hid h; clear h
    go_enter Try.func36, Try.ntmps36
    go_wp2
    go_ret
    exact ⟨ret_bool (by rw [← HG.out, hb]; rfl), rfl⟩
  · have hb : ((c.toNat : Int) == 32) = false := by simp; omega
    clear h
    go_enter Try.func36, Try.ntmps36
    go_wp2
    go_ret
    exact ⟨ret_bool (by rw [← HG.out, hb]; rfl), rfl⟩

def qInt (m : List UInt8) : Int := match qTot m with | none => -1 | some n => n
theorem qInt_none {m : List UInt8} (h : qTot m = none) : qInt m = -1 := by simp [qInt, h]
theorem qInt_some {m : List UInt8} {n : Nat} (h : qTot m = some n) : qInt m = n := by simp [qInt, h]

structure QdRel (m : List UInt8) (k : Nat) : Prop where
  cut : qTot m = (T.qLen false (m.drop k)).map (· + k)
theorem drop_cons {m : List UInt8} {k : Nat} (h : k < m.length) : ∃ c, m.drop k = c :: m.drop (k + 1) ∧ T.bt m k = c.toNat := by
  refine ⟨m[k], List.drop_eq_getElem_cons h, ?_⟩
  simp [T.bt, List.getD_eq_getElem?_getD, h]
theorem QdRel.back {m : List UInt8} {k : Nat} (h : QdRel m k) (hk : k < m.length) (hb : T.bt m k = 92) : QdRel m (k + 2) := by
  obtain ⟨c, e, hc⟩ := drop_cons hk
  have hc92 : c = 92 := (T.u8_eq (n := 92) (by decide)).2 (by omega)
  refine ⟨?_⟩
  rw [h.cut, e, hc92]
  by_cases h1 : k + 1 < m.length
  · obtain ⟨d, e2, _⟩ := drop_cons h1
    rw [e2]
    simp only [T.qLen, if_true, Option.map_map]
    congr 1; funext x; simp; omega
  · rw [List.drop_of_length_le (by omega), List.drop_of_length_le (by omega)]; rfl
theorem QdRel.quote {m : List UInt8} {k : Nat} (h : QdRel m k) (hk : k < m.length) (hb : T.bt m k = 34) : qTot m = some (k + 1) := by
  obtain ⟨c, e, hc⟩ := drop_cons hk
  have hc34 : c = 34 := (T.u8_eq (n := 34) (by decide)).2 (by omega)
  rw [h.cut, e, hc34]
  simp [T.qLen]; omega
theorem QdRel.go {m : List UInt8} {k : Nat} (h : QdRel m k) (hk : k < m.length) (h92 : T.bt m k ≠ 92) (h34 : T.bt m k ≠ 34) : QdRel m (k + 1) := by
  obtain ⟨c, e, hc⟩ := drop_cons hk
  have n92 : ¬ c = 92 := fun e => h92 (by rw [hc, e]; rfl)
  have n34 : ¬ c = 34 := fun e => h34 (by rw [hc, e]; rfl)
  refine ⟨?_⟩
  rw [h.cut, e, qLen_skip n92 n34, Option.map_map]
  congr 1; funext x; simp; omega
theorem QdRel.out {m : List UInt8} {k : Nat} (h : QdRel m k) (hk : m.length ≤ k) : qTot m = none := by
  rw [h.cut, List.drop_of_length_le hk]; rfl

set_option maxHeartbeats 1000000 in
theorem quoted_l (m : List UInt8) (w : World) (hs : m.length ≤ 1000000) : Calls Try.prog 37 #[.string (B m)] w fun e w' => e = .returned (.int .i64 (qInt m)) ∧ w = w' := by
  go_enter Try.func37, Try.ntmps37
  go_wp2
  go_loop [3] (fun i => ∃ k : Nat, i = .int .i64 k ∧ 1 ≤ k ∧ k ≤ m.length + 1 ∧ QdRel m k) (fun i => m.length + 1 - (intOf i).toNat)
  case atStart => exact ⟨1, rfl, by omega, by omega, ⟨rfl⟩⟩
  case round =>
    obtain ⟨k, rfl, hk1, hk2, hr⟩ := hrel
    by_cases hlt : k < m.length
    · have hb8 := T.bt_lt m k
      by_cases c92 : T.bt m k = 92
      · have cb : ((T.bt m k : Int) == 92) = true := by simp; omega
        have HR := Lib.hid (hr.back hlt c92)
        clear c92 hr
        go_wp2
        go_round
        case rel => exact ⟨k + 2, by go_num, by omega, by omega, HR.out⟩
        case measure => simp [intOf]; omega
      · have cb : ((T.bt m k : Int) == 92) = false := by simp; omega
        by_cases c34 : T.bt m k = 34
        · have cb2 : ((T.bt m k : Int) == 34) = true := by simp; omega
          have HQ := Lib.hid (qInt_some (hr.quote hlt c34))
          clear c92 c34 hr
          go_wp2
          go_ret
          exact ⟨ret_int (by rw [HQ.out]; omega), rfl⟩
        · have cb2 : ((T.bt m k : Int) == 34) = false := by simp; omega
          have HR := Lib.hid (hr.go hlt c92 c34)
          clear c92 c34 hr
          go_wp2
          go_round
          case rel => exact ⟨k + 1, by go_num, by omega, by omega, HR.out⟩
          case measure => simp [intOf]; omega
    · have HQ := Lib.hid (qInt_none (hr.out (by omega)))
      clear hr
      go_wp2
      go_ret
      exact ⟨ret_int (by rw [HQ.out]), rfl⟩

theorem plain_take {l : List Int} {k : Nat} (h : k < l.length) (ha : (l.take k).all plainR = true) (hn : plainR l[k] = true) : (l.take (k + 1)).all plainR = true := by
  rw [List.take_succ_eq_append_getElem h, List.all_append, ha]; simp [hn]
theorem plain_stop {l : List Int} {k : Nat} (h : k < l.length) (hn : plainR l[k] = false) : l.all plainR = false := by
  rw [List.all_eq_false]
  exact ⟨l[k], List.getElem_mem h, by simp [hn]⟩

set_option maxHeartbeats 1000000 in
theorem bare_l (m : List UInt8) (w : World) (hs : m.length ≤ 1000000) :
    Calls Try.prog 39 #[.string (B m)] w fun e w' => e = .returned (.bool (plainL m)) ∧ Below w.heap.size w w' := by
  have hnl := T.nums_len m
  go_enter Try.func39, Try.ntmps39
  go_wp2_with fail
  with_reducible refine (refRunes_l m w hs).mono ?_
  rintro e w1 ⟨v, rfl, hown, hb1⟩
  have hpl : plainL m = ((T.nums m).all plainR && !m.isEmpty) := rfl
  generalize T.nums m = A at *
  have HP := Lib.hid hpl; clear hpl
  obtain ⟨a, cap, hv, hca⟩ := reads_own hown
  rw [intCells_len] at hv hca
  subst hv
  have HCA := Lib.hid hca; clear hca hown
  go_wp2
  go_loop [4] (fun i => ∃ k : Nat, i = .int .i64 k ∧ k ≤ A.length ∧ (A.take k).all plainR = true) (fun i => A.length - (intOf i).toNat)
  case atStart => exact ⟨0, rfl, by omega, by simp⟩
  case round =>
    obtain ⟨k, rfl, hk, ha⟩ := hrel
    have HA := Lib.hid ha; clear ha
    by_cases hlt : k < A.length
    · obtain ⟨b1, o1, rfl, hc1⟩ := HCA.out k hlt
      have hc : w1.cell? ⟨b1, o1 + k, none⟩ = some (.int .i64 A[k]) := by rw [hc1]; simp [intCells, hlt]
      have hi1 : (k : Int) < (A.length : Int) := by omega
      have HT := Lib.hid (fun h => plain_take hlt HA.out h)
      have HF := Lib.hid (fun h => HP.out.trans (show (A.all plainR && !m.isEmpty) = false by rw [plain_stop hlt h]; rfl))
      clear hc1
      generalize A[k] = r at *
      by_cases c1 : r < 33
      · have H := Lib.hid (HF.out (by simp [plainR]; omega))
        go_wp2
        go_ret
        rw [H.out]
        exact ⟨rfl, hb1⟩
      by_cases c2 : r = 34
      · have H := Lib.hid (HF.out (by simp [plainR]; omega))
        have c2b : (r == 34) = true := beq_iff_eq.2 c2
        have HC := Lib.hid c2; clear c2
        go_wp2
        go_ret
        rw [H.out]
        exact ⟨rfl, hb1⟩
      have c2b : (r == 34) = false := beq_eq_false_iff_ne.2 c2
      by_cases c3 : r = 127
      · have H := Lib.hid (HF.out (by simp [plainR]; omega))
        have c3b : (r == 127) = true := beq_iff_eq.2 c3
        have HC := Lib.hid c3; clear c3 c2
        go_wp2
        go_ret
        rw [H.out]
        exact ⟨rfl, hb1⟩
      have c3b : (r == 127) = false := beq_eq_false_iff_ne.2 c3
      have H := Lib.hid (HT.out (by simp [plainR]; omega))
      clear c2 c3
      go_wp2
      go_round
      case rel => exact ⟨k + 1, by go_num, by omega, H.out⟩
      case measure => simp [intOf]; omega
    · have H := Lib.hid (show plainL m = !m.isEmpty by
        have e : A.all plainR = true := by have := HA.out; rwa [List.take_of_length_le (by omega)] at this
        rw [HP.out, e, Bool.true_and])
      go_wp2
      go_ret
      rw [H.out]
      exact ⟨rfl, hb1⟩

set_option maxHeartbeats 2000000 in
theorem refLine_l (ws : List (List UInt8)) (va : Value) (w : World) (ha : Reads w va (strCells ws)) (hn : ws.length ≤ 100) (hl : ∀ x ∈ ws, x.length ≤ 1000) :
    Calls Try.prog 26 #[va] w fun e w' => e = .returned (.string (B (lineF ws))) ∧ Below w.heap.size w w' := by
  obtain ⟨a, ca, rfl, hxa⟩ := ha
  simp only [strCells_len] at *
  have HXA := Lib.hid hxa; clear hxa
  have HL := Lib.hid hl; clear hl
  go_enter Try.func26, Try.ntmps26
  go_wp2
  go_loopw [3, 4] (fun s i wr => ∃ k : Nat, i = .int .i64 k ∧ k ≤ ws.length ∧ s = .string (B (lineF (ws.take k))) ∧ (lineF (ws.take k)).length ≤ k * 4003 ∧ Below w.heap.size w wr) (fun _ i _ => ws.length - (intOf i).toNat)
  case atStart => exact ⟨0, rfl, Nat.zero_le _, rfl, by simp [lineF], Below.refl _ w⟩
  case round =>
    obtain ⟨k, rfl, hk, rfl, hlen, hbel⟩ := hrel
    by_cases hlt : k < ws.length
    · obtain ⟨b1, o1, rfl, hc1⟩ := HXA.out k hlt
      have hcell : wr.cell? ⟨b1, o1 + k, none⟩ = some (.string (B ws[k])) := by
        have : w.cell? ⟨b1, o1 + k, none⟩ = some (.string (B ws[k])) := by rw [hc1]; simp [strCells, hlt]
        rw [hbel.cell (World.block_lt_of_cell? w _ this)]; exact this
      have hwl := HL.out ws[k] (List.getElem_mem hlt)
      have hi1 : (k : Int) < (ws.length : Int) := by omega
      have hlen2 : (lineF (ws.take k)).length ≤ 400300 := by omega
      clear hc1
      cases hp : plainL ws[k]
      · by_cases hk0 : 0 < k
        · have HF := Lib.hid (lineF_next hlt hk0)
          have hkd : decide ((0 : Int) < (k : Int)) = true := by simp; omega
          have HQ := Lib.hid (show wordQ ws[k] = T.quoteL ws[k] by simp [wordQ, hp])
          have hql := wordQ_len ws[k]
          rw [HQ.out] at hql
          have HP := Lib.hid hp; clear hp
          generalize ws[k] = x at *
          generalize lineF (ws.take k) = acc at *
          go_wp2_with fail
          refine (bare_l x _ (by omega)).mono ?_
          rintro e w2 ⟨rfl, hb2⟩
          rw [HP.out]
          have hbb2 := hbel.trans (hb2.mono hbel.size)
          have hc2 : w2.cell? ⟨b1, o1 + k, none⟩ = some (.string (B x)) := by rw [hb2.cell (World.block_lt_of_cell? wr _ hcell)]; exact hcell
          clear hb2 hbel hcell
          go_wp2_with fail
          refine (refQuote_l x _ (by omega)).mono ?_
          rintro e w3 ⟨rfl, hq3⟩
          have hbb3 := below_quiet hbb2 hq3
          clear hq3 hbb2 hc2
          go_wp2
          go_roundw
          case rel => exact ⟨k + 1, by go_num, by omega, by first | (rw [HF.out, HQ.out]; done) | (rw [HF.out, HQ.out]; simp), by rw [HF.out, HQ.out]; simp; omega, hbb3⟩
          case measure => simp [intOf]; omega
        · have HF := Lib.hid (lineF_first hlt hk0)
          have hkd : decide (0 < k) = false := by simpa using hk0
          have HQ := Lib.hid (show wordQ ws[k] = T.quoteL ws[k] by simp [wordQ, hp])
          have hql := wordQ_len ws[k]
          rw [HQ.out] at hql
          have HP := Lib.hid hp; clear hp
          generalize ws[k] = x at *
          generalize lineF (ws.take k) = acc at *
          go_wp2_with fail
          refine (bare_l x _ (by omega)).mono ?_
          rintro e w2 ⟨rfl, hb2⟩
          rw [HP.out]
          have hbb2 := hbel.trans (hb2.mono hbel.size)
          have hc2 : w2.cell? ⟨b1, o1 + k, none⟩ = some (.string (B x)) := by rw [hb2.cell (World.block_lt_of_cell? wr _ hcell)]; exact hcell
          clear hb2 hbel hcell
          go_wp2_with fail
          refine (refQuote_l x _ (by omega)).mono ?_
          rintro e w3 ⟨rfl, hq3⟩
          have hbb3 := below_quiet hbb2 hq3
          clear hq3 hbb2 hc2
          go_wp2
          go_roundw
          case rel => exact ⟨k + 1, by go_num, by omega, by first | (rw [HF.out, HQ.out]; done) | (rw [HF.out, HQ.out]; simp), by rw [HF.out, HQ.out]; simp; omega, hbb3⟩
          case measure => simp [intOf]; omega
      · by_cases hk0 : 0 < k
        · have HF := Lib.hid (lineF_next hlt hk0)
          have hkd : decide ((0 : Int) < (k : Int)) = true := by simp; omega
          have HQ := Lib.hid (show wordQ ws[k] = ws[k] by simp [wordQ, hp])
          have hql := wordQ_len ws[k]
          rw [HQ.out] at hql
          have HP := Lib.hid hp; clear hp
          generalize ws[k] = x at *
          generalize lineF (ws.take k) = acc at *
          go_wp2_with fail
          refine (bare_l x _ (by omega)).mono ?_
          rintro e w2 ⟨rfl, hb2⟩
          rw [HP.out]
          have hbb2 := hbel.trans (hb2.mono hbel.size)
          have hc2 : w2.cell? ⟨b1, o1 + k, none⟩ = some (.string (B x)) := by rw [hb2.cell (World.block_lt_of_cell? wr _ hcell)]; exact hcell
          clear hb2 hbel hcell
          go_wp2
          go_roundw
          case rel => exact ⟨k + 1, by go_num, by omega, by first | (rw [HF.out, HQ.out]; done) | (rw [HF.out, HQ.out]; simp), by rw [HF.out, HQ.out]; simp; omega, hbb2⟩
          case measure => simp [intOf]; omega
        · have HF := Lib.hid (lineF_first hlt hk0)
          have hkd : decide (0 < k) = false := by simpa using hk0
          have HQ := Lib.hid (show wordQ ws[k] = ws[k] by simp [wordQ, hp])
          have hql := wordQ_len ws[k]
          rw [HQ.out] at hql
          have HP := Lib.hid hp; clear hp
          generalize ws[k] = x at *
          generalize lineF (ws.take k) = acc at *
          go_wp2_with fail
          refine (bare_l x _ (by omega)).mono ?_
          rintro e w2 ⟨rfl, hb2⟩
          rw [HP.out]
          have hbb2 := hbel.trans (hb2.mono hbel.size)
          have hc2 : w2.cell? ⟨b1, o1 + k, none⟩ = some (.string (B x)) := by rw [hb2.cell (World.block_lt_of_cell? wr _ hcell)]; exact hcell
          clear hb2 hbel hcell
          go_wp2
          go_roundw
          case rel => exact ⟨k + 1, by go_num, by omega, by first | (rw [HF.out, HQ.out]; done) | (rw [HF.out, HQ.out]; simp), by rw [HF.out, HQ.out]; simp; omega, hbb2⟩
          case measure => simp [intOf]; omega
    · have HT := Lib.hid (show ws.take k = ws from List.take_of_length_le (by omega))
      go_wp2
      go_ret
      rw [HT.out]
      exact ⟨rfl, hbel⟩
end Go.Proofs.Ytnaabapahblhmaa
