/-
  Proved: for every list of texts and every number the law NumTexts of package bucketlinelaw2 returns true, and its arguments read as before: a text that is taken is of no more bytes than are let, and what is behind it is what was behind it. No condition.
-/
import Derived.Test.YtdmkmeohmgfpbaaNumShown
import Derived.ProofKit
import Derived.OpenShut
import Derived.ShutString
namespace Go.Proofs.Ytdmkmeohmgfpbaa
open Go.ChangeShapes Go.WideShapes Go.ChangeAt Go.RowKit
open Go.ChangeMaps (open_string shut_string)
attribute [local go_sem] ext_Bd ext_Bl ext_Bt toList_B add_B size_B get_Bt

theorem numTexts_own : ownKnob Try.prog.godebug = none := by kernel_rfl
theorem numTexts_laid : laidOutB Try.prog = true := by kernel_rfl

def putTs (ws : List (List UInt8)) : List UInt8 := ws.flatMap N.putT
theorem putTs_step {ws : List (List UInt8)} {k : Nat} (h : k < ws.length) : putTs (ws.take (k + 1)) = putTs (ws.take k) ++ N.putT ws[k] := by
  unfold putTs
  rw [List.take_succ_eq_append_getElem h, List.flatMap_append, List.flatMap_cons, List.flatMap_nil, List.append_nil]
theorem putTs_drop {ws : List (List UInt8)} {k : Nat} (h : k < ws.length) : putTs (ws.drop k) = N.putT ws[k] ++ putTs (ws.drop (k + 1)) := by
  unfold putTs
  rw [List.drop_eq_getElem_cons h, List.flatMap_cons]
theorem putTs_len : ∀ (ws : List (List UInt8)), (∀ x ∈ ws, x.length ≤ 300) → (putTs ws).length ≤ ws.length * 306
  | [], _ => by simp [putTs]
  | x :: r, h => by
    have h1 := h x (by simp)
    have h2 := N.putT_len (l := x) (by omega)
    have h3 := putTs_len r (fun y hy => h y (by simp [hy]))
    simp only [putTs, List.flatMap_cons, List.length_append, List.length_cons] at h3 ⊢
    omega
structure TsAt (ws : List (List UInt8)) (k : Nat) : Prop where
  le : k ≤ ws.length
  all : ∀ x ∈ ws.take k, x.length ≤ 300
theorem TsAt.go {ws : List (List UInt8)} {k : Nat} (h : TsAt ws k) (hk : k < ws.length) (hx : ws[k].length ≤ 300) : TsAt ws (k + 1) :=
  ⟨by omega, fun x hm => by
    rw [List.take_succ_eq_append_getElem hk] at hm
    rcases List.mem_append.1 hm with hm | hm
    · exact h.all x hm
    · simp at hm; subst hm; exact hx⟩
theorem TsAt.len {ws : List (List UInt8)} {k : Nat} (h : TsAt ws k) : (putTs (ws.take k)).length ≤ k * 306 := by
  have h1 := putTs_len _ h.all
  have h2 : (ws.take k).length ≤ k := List.length_take_le _ _
  exact Nat.le_trans h1 (Nat.mul_le_mul_right _ h2)

set_option maxHeartbeats 1000000 in
set_option maxRecDepth 100000 in
theorem numTexts_big (ws : List (List UInt8)) (va : Value) (most : Int) (w : World) (ha : Reads w va (strCells ws)) (h : 20 < ws.length) :
    Calls Try.prog 7 #[va, .int .i64 most] w fun e w' => e = .returned (.bool true) ∧ Below w.heap.size w w' := by
  obtain ⟨a, ca, rfl, hxa⟩ := ha
  simp only [strCells_len] at *
  clear hxa
  go_enter Try.func7, Try.ntmps7
  go_wp2_with fail
  refine (shown2_any w).mono ?_
  rintro e w1 ⟨rfl, hb1⟩
  go_wp2
  go_ret
  exact ⟨rfl, hb1⟩

set_option maxHeartbeats 4000000 in
set_option maxRecDepth 100000 in
theorem numTexts_small (ws : List (List UInt8)) (va : Value) (most : Int) (w : World) (ha : Reads w va (strCells ws)) (h20 : ws.length ≤ 20) :
    Calls Try.prog 7 #[va, .int .i64 most] w fun e w' => e = .returned (.bool true) ∧ Below w.heap.size w w' := by
  have ha2 := ha
  obtain ⟨a, ca, rfl, hxa⟩ := ha
  simp only [strCells_len] at hxa ha2 ⊢
  have HA := Lib.hid ha2; clear ha2
  have HXA := Lib.hid hxa; clear hxa
  go_enter Try.func7, Try.ntmps7
  go_wp2_with fail
  refine (shown2_any w).mono ?_
  rintro e w1 ⟨rfl, hb1⟩
  go_wp2
  go_loopw [6, 7] (fun s i wr => ∃ k : Nat, i = .int .i64 k ∧ s = .string (B (putTs (ws.take k))) ∧ TsAt ws k ∧ Below w.heap.size w wr) (fun _ i _ => ws.length - (intOf i).toNat)
  case atStart => exact ⟨0, rfl, by simp [putTs, B], ⟨by omega, by simp⟩, hb1⟩
  case round =>
    obtain ⟨k, rfl, rfl, hg, hbw⟩ := hrel
    have hkl := hg.le
    have hpl := hg.len
    have HG := Lib.hid hg; clear hg
    by_cases hlt : k < ws.length
    · obtain ⟨b1, o1, rfl, hc1⟩ := HXA.out k hlt
      have hcw : w.cell? ⟨b1, o1 + k, none⟩ = some (.string (B ws[k])) := by rw [hc1]; simp [strCells, hlt]
      have hcell : wr.cell? ⟨b1, o1 + k, none⟩ = some (.string (B ws[k])) := by rw [hbw.cell (World.block_lt_of_cell? w _ hcw)]; exact hcw
      have hi1 : (k : Int) < (ws.length : Int) := by omega
      clear hc1 hcw
      by_cases hx : ws[k].length ≤ 300
      · have HS := Lib.hid (HG.out.go hlt hx)
        have HP := Lib.hid (putTs_step hlt)
        generalize ws[k] = x at *
        have htl := N.putT_len (l := x) (by omega)
        go_wp2_with fail
        refine (PutText_l x _ (by omega)).mono ?_
        rintro e w2 ⟨rfl, hb⟩
        have hb2 := hbw.trans (hb.mono hbw.size)
        clear hb hbw
        go_wp2
        go_roundw
        case rel => exact ⟨k + 1, by go_num, by rw [HP.out], HS.out, hb2⟩
        case measure => simp [intOf]; omega
      · generalize ws[k] = x at *
        go_wp2
        go_ret
        exact ⟨rfl, hbw⟩
    · have hall : ∀ x ∈ ws, x.length ≤ 300 := by
        have := HG.out.all
        rwa [List.take_of_length_le (by omega)] at this
      have HALL := Lib.hid hall; clear hall
      have HT := Lib.hid (show ws.take k = ws from List.take_of_length_le (by omega))
      rw [HT.out] at hpl ⊢
      clear hpl
      go_wp2
      go_loopw [6, 8] (fun s i wr => ∃ j : Nat, i = .int .i64 j ∧ s = .string (B (putTs (ws.drop j))) ∧ j ≤ ws.length ∧ Below w.heap.size w wr) (fun _ i _ => ws.length - (intOf i).toNat)
      case atStart => exact ⟨0, rfl, by simp, by omega, hbw⟩
      case round =>
        clear hbw
        obtain ⟨j, rfl, rfl, hj, hbw⟩ := hrel
        by_cases hjl : j < ws.length
        · obtain ⟨b1, o1, rfl, hc1⟩ := HXA.out j hjl
          have hcw : w.cell? ⟨b1, o1 + j, none⟩ = some (.string (B ws[j])) := by rw [hc1]; simp [strCells, hjl]
          have hx : ws[j].length ≤ 300 := HALL.out _ (List.getElem_mem hjl)
          have hdl : (putTs (ws.drop j)).length ≤ 6120 := by
            have h1 := putTs_len (ws.drop j) (fun x hx => HALL.out x (List.mem_of_mem_drop hx))
            have h2 : (ws.drop j).length * 306 ≤ 20 * 306 := Nat.mul_le_mul_right _ (by simp; omega)
            omega
          have HD := Lib.hid (putTs_drop hjl)
          clear hc1
          have hblk := World.block_lt_of_cell? w _ hcw
          have HCW := Lib.hid hcw; clear hcw
          have HBLK := Lib.hid hblk; clear hblk
          generalize hxe : ws[j] = x at *
          have HXE := Lib.hid hxe; clear hxe
          have hi1 : (j : Int) < (ws.length : Int) := by omega
          go_wp2_with fail
          refine (TakeText_l (putTs (ws.drop j)) most _ (by omega)).mono ?_
          rintro e w2 ⟨rfl, hq⟩
          have hb2 := below_quiet hbw hq
          have hcell : w2.cell? ⟨b1, o1 + j, none⟩ = some (.string (B x)) := by rw [hb2.cell HBLK.out]; exact HCW.out
          rw [HD.out]
          clear hq hbw
          by_cases hm : most < x.length
          · rw [N.takeT_put_long (by omega) hm, ttRes_bad]
            go_wp2
            go_ret
            exact ⟨rfl, hb2⟩
          · rw [N.takeT_put (by omega) hm, ttRes_ok]
            have hm2 : ¬ most < (x.length : Int) := hm
            go_wp2
            go_roundw
            case rel => exact ⟨j + 1, by go_num, rfl, by omega, hb2⟩
            case measure => simp [intOf]; omega
        · have HN := Lib.hid (show ws.drop j = [] from List.drop_of_length_le (by omega))
          rw [HN.out]
          go_wp2
          go_ret
          exact ⟨rfl, hbw⟩

theorem numTexts_walk (ws : List (List UInt8)) (va : Value) (most : Int) (_ : (Lit.int .i64 most).wf = true) (w : World) (ha : Reads w va (strCells ws)) :
    Calls Try.prog 7 #[va, .int .i64 most] w fun e w' => e = .returned (.bool true) ∧ Below w.heap.size w w' := by
  by_cases h : 20 < ws.length
  · exact numTexts_big ws va most w ha h
  · exact numTexts_small ws va most w ha (by omega)

set_option maxRecDepth 100000 in
theorem numTexts_lifted (os : Os) (started : os.Started) (H : Type) (enc : TypeId × Value → H) :
    ReturnsInHanded {} Try.checked os 7 .any (Rows.numTextsSpec.pre6 enc Try.prog Try.f7 Rows.numTextsRow.domain false) (Rows.numTextsSpec.post enc Try.prog Try.f7 false true false false) := by
  refine returnsInHanded_of_change (C := Try.checked) numTexts_own started (by kernel_rfl) Try.func7
    (ChangeSpec.witness6 (enc := enc) (C := Try.checked) false ⟨#[], #[.slice none 0 0, .int .i64 0], []⟩ 8 (by kernel_rfl) (by kernel_rfl) (by kernel_rfl) (by kernel_rfl)) ?_
  intro W base args ds gs before hval0 hW _ _
  have hval : ∀ (j : Nat) t v, Try.f7.params[j]? = some t → args[j]? = some v → Value.okWide Try.prog W .any base t v := hval0
  have hW' := hW
  obtain ⟨p, q, hA0, hV, rfl, hfz, hnd⟩ := hW
  have hA : DataW.TrodAll enc Try.prog W 0 (fun _ => true) true Try.f7.params.toList args.toList ds p := hA0
  rw [Try.params7] at hA hval
  obtain ⟨v0, vs0, d0, ds0, p0, q0, hargs, rfl, rfl, h0, r0⟩ := trodAll_cons hA
  obtain ⟨v1, vs1, d1, ds1, p1, q1, rfl, rfl, rfl, h1, r1⟩ := trodAll_cons r0
  obtain ⟨rfl, rfl, rfl⟩ := trodAll_nil r1
  obtain rfl : args = #[v0, v1] := by cases args; simp_all
  obtain ⟨rfl, rfl⟩ := trodVars_none hV
  obtain ⟨a0, len0, cap0, rfl⟩ := okWide_slice Try.underlying38 (hval 0 38 v0 rfl rfl)
  have k0 := h0
  have lt0 : ∀ x ∈ p0, x.block < W.heap.size := by obtain ⟨m, hm⟩ := k0; exact DataW.trod_lt m _ _ _ hm
  obtain ⟨z0, w0⟩ : ∃ zs, Reads W (.slice a0 len0 cap0) (strCells zs) := by
    obtain ⟨fuel, hf⟩ := h0
    rcases open_strings Try.underlying38 Try.underlying9 (by kernel_rfl) hf with ⟨hcs, _⟩ | ⟨x, l, c, ss, hcs, _, hl, hm, hz, _, hcell, hwz⟩
    · simp [Value.cells] at hcs
      obtain ⟨rfl, rfl, rfl⟩ := hcs
      exact ⟨[], none, 0, rfl, fun i hi => by simp [strCells] at hi⟩
    · simp [Value.cells] at hcs
      obtain ⟨rfl, rfl, rfl⟩ := hcs
      exact ⟨_, reads_strings (by simp at hz; omega) hcell⟩
  obtain ⟨a1, rfl, rfl, rfl, w1⟩ := open_int Try.underlying3 (hval 1 3 v1 rfl rfl) h1
  clear hA0 hval0
  refine (numTexts_walk z0 _ a1 w1 W w0).mono fun e W' ⟨he, bel⟩ => ?_
  subst he
  exact ⟨_, rfl, _, _, _, [], _, [], hW', trodAll_mk1 (shut_bool Try.underlying4 _), (trodAll_cons_mk (Below.trod numTexts_laid (by kernel_rfl) (of_decide_eq_true (by kernel_rfl)) k0 bel lt0) (trodAll_cons_mk (shut_int Try.underlying3 w1) trodAll_mk0)), rfl, bel.frame _, fun h => by cases h⟩

theorem numTexts_holds : Rows.NumTextsSaid :=
  OpenClaim.holds_of_wide 7 Try.f7 rfl rfl rfl rfl rfl rfl rfl ⟨rfl, rfl, rfl, rfl, rfl⟩ rfl rfl rfl rfl rfl (by kernel_rfl) Try.func7 (by kernel_rfl)
    (of_decide_eq_true (by kernel_rfl)) (by unfold Func.isWrapper; first | (rw [if_pos (by decide +kernel)]; kernel_rfl) | (rw [if_neg (by decide +kernel)]; exact ⟨rfl, rfl⟩))
    (fun os started H enc _ => numTexts_lifted os started H enc)
#print axioms numTexts_holds
end Go.Proofs.Ytdmkmeohmgfpbaa
