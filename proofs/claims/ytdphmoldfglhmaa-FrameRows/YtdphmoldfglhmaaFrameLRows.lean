/-
  Proved: for every two lists of texts the law FrameRows of package bucketlinelaw4 returns true, and its arguments read as before: two rows, one behind the other, are the row of both, and a frame has eight bytes more than its payload. No condition.
-/
import Derived.Test.YtdphmoldfglhmaaFrameShown
import Derived.Test.YtdphmoldfglhmaaFrameRef2
import Derived.Test.YtdphmoldfglhmaaFrameMore
import Derived.Test.YtdphmoldfglhmaaReadsCap
import Derived.ProofKit
import Derived.OpenShut
import Derived.ShutString
namespace Go.Proofs.Ytdphmoldfglhmaa
open Go.ChangeShapes Go.WideShapes Go.ChangeAt Go.RowKit
open Go.ChangeMaps (open_string shut_string)
attribute [local go_sem] ext_Bd ext_Bl ext_Bt toList_B add_B size_B get_Bt

theorem frameRows_own : ownKnob Try.prog.godebug = none := by kernel_rfl
theorem frameRows_laid : laidOutB Try.prog = true := by kernel_rfl


set_option maxHeartbeats 4000000 in
set_option maxRecDepth 100000 in
theorem frameRows_walk (xa : List (List UInt8)) (va : Value) (xb : List (List UInt8)) (vb : Value) (w : World) (ha : ReadsC w va (strCells xa)) (hb : ReadsC w vb (strCells xb)) :
    Calls Try.prog 7 #[va, vb] w fun e w' => e = .returned (.bool true) ∧ Below w.heap.size w w' := by
  obtain ⟨i0, hi, hz0, hz1, hz2⟩ := info_parts Try.infoStr
  have ha2 := ha
  have hb2 := hb
  obtain ⟨aa, ka, rfl, _, _, hxa⟩ := ha2
  obtain ⟨ab, kb, rfl, _, _, _⟩ := hb2
  simp only [strCells_len] at *
  have HXA := Lib.hid hxa; clear hxa
  have HA := Lib.hid ha; clear ha
  have HB := Lib.hid hb; clear hb
  go_enter Try.func7, Try.ntmps7
  go_wp2_with fail
  refine (shown4_any w).mono ?_
  rintro e w1 ⟨rfl, hb1⟩
  go_wp2_with fail
  refine (small_l xa _ w1 (reads_below HA.out.reads hb1)).mono ?_
  rintro e w2 ⟨hres, hq2⟩
  have hb2 := below_quiet hb1 hq2
  clear hq2 hb1
  rcases hres with rfl | ⟨rfl, ha30⟩
  · go_wp2_with fail
    refine (small_l xb _ w2 (reads_below HB.out.reads hb2)).mono ?_
    rintro e w3 ⟨hres3, hq3⟩
    have hb3 := below_quiet hb2 hq3
    clear hq3 hb2
    rcases hres3 with rfl | ⟨rfl, _⟩
    all_goals
      go_wp2
      go_ret
      exact ⟨rfl, hb3⟩
  go_wp2_with fail
  refine (small_l xb _ w2 (reads_below HB.out.reads hb2)).mono ?_
  rintro e w3 ⟨hres3, hq3⟩
  have hb3 := below_quiet hb2 hq3
  clear hq3 hb2
  rcases hres3 with rfl | ⟨rfl, hb30⟩
  · go_wp2
    go_ret
    exact ⟨rfl, hb3⟩
  obtain ⟨sa, HSA⟩ : ∃ sa, Hid (rowS xa = sa) := ⟨_, Lib.hid rfl⟩
  obtain ⟨ca, HCA⟩ : ∃ ca, Hid (F.codes xa = ca) := ⟨_, Lib.hid rfl⟩
  obtain ⟨sb, HSB⟩ : ∃ sb, Hid (rowS xb = sb) := ⟨_, Lib.hid rfl⟩
  obtain ⟨cb, HCB⟩ : ∃ cb, Hid (F.codes xb = cb) := ⟨_, Lib.hid rfl⟩
  obtain ⟨sc, HSC⟩ : ∃ sc, Hid (rowS (xa ++ xb) = sc) := ⟨_, Lib.hid rfl⟩
  obtain ⟨cc, HCC⟩ : ∃ cc, Hid (F.codes (xa ++ xb) = cc) := ⟨_, Lib.hid rfl⟩
  go_wp2_with fail
  refine (chain (Row_at xa sa ca _ w3 (reads_below HA.out.reads hb3) (by omega) HSA HCA) hb3).mono ?_
  rintro e w4 ⟨rfl, hb4⟩
  go_wp2_with fail
  refine (chain (Row_at xb sb cb _ w4 (reads_below HB.out.reads hb4) (by omega) HSB HCB) hb4).mono ?_
  rintro e w5 ⟨rfl, hb5⟩
  clear hb3 hb4
  have ho0 := World.ownsRow_lit (base := w5.heap.size) (e := 9) (size := 1) w5 #[] 0 (Nat.le_refl _) (by decide) rfl
  have hla : (strCells xa).length = xa.length := strCells_len xa
  have hlb : (strCells xb).length = xb.length := strCells_len xb
  have hb5a : Below w.heap.size w (w5.alloc (.cells #[] 9)) := hb5.alloc hb5.size _
  have HRA := Lib.hid (readsC_below HA.out hb5a)
  go_wp2_with (first
    | (at_builtin; refine wpList_append_reads rfl (.tmp 45) (.tmp 46) 22 rfl w5.heap.size 9 i0 (.string ⟨#[]⟩) 16 Try.underlying22 hi hz0 hz1 hz2 rfl _ 0 [] rfl ho0 _ (strCells xa) rfl HRA.out (strCells_one xa) (by unfold maxLen; omega) (by omega) (by simp) ?_; intro v6 w6 ho6 hg6; have hb6 := below_made hg6; have hb6a := hb5.trans (hb6.mono hb5.size); have HRB := Lib.hid (readsC_below HB.out hb6a); rw [Nat.zero_add, List.nil_append] at ho6)
    | (at_builtin; refine wpList_append_reads rfl (.tmp 47) (.tmp 48) 22 rfl w5.heap.size 9 i0 (.string ⟨#[]⟩) 16 Try.underlying22 hi hz0 hz1 hz2 rfl _ _ (strCells xa) rfl ho6 _ (strCells xb) rfl HRB.out (strCells_one xb) (by unfold maxLen; omega) (by omega) hb6.size ?_; intro v7 w7 ho7 hg7; have hb7 := hb6.grown hg7 hb6.size (fun k hk => (ho6.lt k hk).1); have hb7a := hb5.trans (hb7.mono hb5.size)))
  rw [← strCells_append] at ho7
  have hr7 := reads_own ho7
  clear ho6 hg6 hb6 hb6a HRB ho7 hg7 hb7 HRA hb5a hb5 ho0
  refine (chain (Row_at (xa ++ xb) sc cc v7 w7 hr7 (by rw [List.length_append]; omega) HSC HCC) hb7a).mono ?_
  rintro e w8 ⟨rfl, hb8⟩
  clear hb7a hr7
  have happ := F.codes_append xa xb
  rw [HCA.out, HCB.out, HCC.out] at happ
  by_cases hca : ca = 0
  · rw [if_pos hca] at happ
    by_cases hcb : cb = 0
    · subst happ hca hcb
      have HGA := Lib.hid (F.codes_zero HCA.out)
      have HGB := Lib.hid (F.codes_zero HCB.out)
      have HE1 := Lib.hid (show sa = F.frames xa by rw [← HSA.out]; exact rowS_ok HCA.out)
      have HE2 := Lib.hid (show sb = F.frames xb by rw [← HSB.out]; exact rowS_ok HCB.out)
      have HE3 := Lib.hid (show sc = F.frames (xa ++ xb) by rw [← HSC.out]; exact rowS_ok HCC.out)
      have HE4 := Lib.hid (show sa ++ sb = sc by rw [HE1.out, HE2.out, HE3.out, F.frames_append])
      have HSN := Lib.hid (show F.scan sc = (xa ++ xb, sc.length) by
        rw [HE3.out]
        refine F.scan_row_all fun p hp => ?_
        rcases List.mem_append.1 hp with hp | hp
        · exact HGA.out p hp
        · exact HGB.out p hp)
      have hsal : sa.length ≤ 240240 := by have := frames_le HGA.out; rw [HE1.out]; omega
      have hsbl : sb.length ≤ 240240 := by have := frames_le HGB.out; rw [HE2.out]; omega
      have hscl : sc.length = sa.length + sb.length := by rw [← HE4.out, List.length_append]
      have HMONO : Hid (∀ k, k ≤ xa.length → (F.frames (xa.take k)).length ≤ 240240) := Lib.hid fun k hk => by
        have h1 := frames_le (l := xa.take k) fun p hp => HGA.out p (List.mem_of_mem_take hp)
        have h2 : (xa.take k).length ≤ k := by rw [List.length_take]; omega
        omega
      go_wp2
      go_loop [14, 15] (fun y z => ∃ k : Nat, z = .int .i64 k ∧ k ≤ xa.length ∧ y = .int .i64 ((F.frames (xa.take k)).length : Nat)) (fun _ z => xa.length - (intOf z).toNat)
      case atStart => exact ⟨0, rfl, Nat.zero_le _, rfl⟩
      case round =>
        obtain ⟨k, rfl, hkl, rfl⟩ := hrel
        have hAb := HMONO.out k hkl
        by_cases hlt : k < xa.length
        · have hi1 : (k : Int) < (xa.length : Int) := by omega
          obtain ⟨b1, o1, rfl, hc1⟩ := HXA.out k hlt
          have hcell : w8.cell? ⟨b1, o1 + k, none⟩ = some (.string (B xa[k])) := by
            have : w.cell? ⟨b1, o1 + k, none⟩ = some (.string (B xa[k])) := by rw [hc1]; simp [strCells, hlt]
            rw [hb8.cell (World.block_lt_of_cell? w _ this)]; exact this
          clear hc1
          have hxl : xa[k].length ≤ 8000 := (HGA.out _ (List.getElem_mem hlt)).2
          have HSTEP : Hid ((F.frames (xa.take (k + 1))).length = (F.frames (xa.take k)).length + (xa[k].length + 8)) := Lib.hid (by rw [F.frames_step hlt, List.length_append, F.frame_len])
          generalize xa[k] = x at *
          generalize (F.frames (xa.take k)).length = A at *
          go_wp2
          go_round
          case rel => exact ⟨k + 1, by go_num, by omega, by rw [HSTEP.out]; go_num⟩
          case measure => simp [intOf]; omega
        · have hi1 : ¬ (k : Int) < (xa.length : Int) := by omega
          have HT := Lib.hid (show F.frames (xa.take k) = sa by rw [List.take_of_length_le (by omega), HE1.out])
          rw [HT.out]
          clear hAb hlt
          go_wp2_with fail
          refine (Scan_l sc w8 (by omega)).mono ?_
          rintro e w9 ⟨v9, rfl, hown9, hb9⟩
          rw [HSN.out] at hown9 ⊢
          obtain ⟨a9, c9, rfl, _⟩ := reads_own hown9
          have hbb := hb8.trans (hb9.mono hb8.size)
          clear hown9 hb9 hb8
          simp only [strCells_len, List.length_append]
          have hcat : sa ++ sb = sc := HE4.out
          go_wp2
          go_ret
          exact ⟨rfl, hbb⟩
    · have hne : ((cb : Int) == 0) = false := beq_eq_false_iff_ne.2 (by omega)
      have HE := Lib.hid (show sc = [] by rw [← HSC.out]; exact rowS_bad (by rw [HCC.out]; omega))
      rw [HE.out]
      subst happ hca
      clear hcb
      go_wp2
      go_ret
      exact ⟨rfl, hb8⟩
  · rw [if_neg hca] at happ
    have hne : ((ca : Int) == 0) = false := beq_eq_false_iff_ne.2 (by omega)
    have HE := Lib.hid (show sc = [] by rw [← HSC.out]; exact rowS_bad (by rw [HCC.out]; omega))
    rw [HE.out]
    subst happ
    have HNB : Hid (((cc : Int) != 0) = true) := Lib.hid (by rw [bne, hne]; rfl)
    clear hca
    go_wp2
    go_ret
    exact ⟨ret_bool HNB.out, hb8⟩

set_option maxRecDepth 100000 in
theorem frameRows_lifted (os : Os) (started : os.Started) (H : Type) (enc : TypeId × Value → H) :
    ReturnsInHanded {} Try.checked os 7 .any (Rows.frameRowsSpec.pre6 enc Try.prog Try.f7 Rows.frameRowsRow.domain false) (Rows.frameRowsSpec.post enc Try.prog Try.f7 false true false false) := by
  refine returnsInHanded_of_change (C := Try.checked) frameRows_own started (by kernel_rfl) Try.func7
    (ChangeSpec.witness6 (enc := enc) (C := Try.checked) false ⟨#[], #[.slice none 0 0, .slice none 0 0], []⟩ 8 (by kernel_rfl) (by kernel_rfl) (by kernel_rfl) (by kernel_rfl)) ?_
  intro W base args ds gs before hval0 hW _ _
  have hval : ∀ (j : Nat) t v, Try.f7.params[j]? = some t → args[j]? = some v → Value.okWide Try.prog W .any base t v := hval0
  have hW' := hW
  obtain ⟨p, q, hA0, hV, rfl, hfz, hnd⟩ := hW
  have hA : DataW.TrodAll enc Try.prog W 0 (fun _ => true) true Try.f7.params.toList args.toList ds p := hA0
  rw [Try.params7] at hA hval
  obtain ⟨v0, vs0, d0, ds0, p0, q0, hargs, rfl, rfl, h0, r0⟩ := trodAll_cons hA
  obtain ⟨v1, vs1, d1, ds1, p1, q1, rfl, rfl, rfl, h1, r1⟩ := trodAll_cons r0
  obtain ⟨rfl, rfl, rfl⟩ := trodAll_nil r1
  obtain rfl : args = #[v0, v1] := by cases args; simp_all
  obtain ⟨rfl, rfl⟩ := trodVars_none hV
  obtain ⟨a0, len0, cap0, rfl⟩ := okWide_slice Try.underlying22 (hval 0 22 v0 rfl rfl)
  have k0 := h0
  have lt0 : ∀ x ∈ p0, x.block < W.heap.size := by obtain ⟨m, hm⟩ := k0; exact DataW.trod_lt m _ _ _ hm
  obtain ⟨z0, w0⟩ : ∃ zs, ReadsC W (.slice a0 len0 cap0) (strCells zs) := by
    obtain ⟨fuel, hf⟩ := h0
    rcases open_strings Try.underlying22 Try.underlying9 (by kernel_rfl) hf with ⟨hcs, _⟩ | ⟨x, l, c, ss, hcs, _, hl, hm, hz, _, hcell, hwz⟩
    · simp [Value.cells] at hcs
      obtain ⟨rfl, rfl, rfl⟩ := hcs
      exact ⟨[], none, 0, rfl, Nat.le_refl _, fun _ => rfl, fun i hi => by simp [strCells] at hi⟩
    · simp [Value.cells] at hcs
      obtain ⟨rfl, rfl, rfl⟩ := hcs
      exact ⟨_, readsC_strings (by simp at hz; omega) hl hcell⟩
  obtain ⟨a1, len1, cap1, rfl⟩ := okWide_slice Try.underlying22 (hval 1 22 v1 rfl rfl)
  have k1 := h1
  have lt1 : ∀ x ∈ p1, x.block < W.heap.size := by obtain ⟨m, hm⟩ := k1; exact DataW.trod_lt m _ _ _ hm
  obtain ⟨z1, w1⟩ : ∃ zs, ReadsC W (.slice a1 len1 cap1) (strCells zs) := by
    obtain ⟨fuel, hf⟩ := h1
    rcases open_strings Try.underlying22 Try.underlying9 (by kernel_rfl) hf with ⟨hcs, _⟩ | ⟨x, l, c, ss, hcs, _, hl, hm, hz, _, hcell, hwz⟩
    · simp [Value.cells] at hcs
      obtain ⟨rfl, rfl, rfl⟩ := hcs
      exact ⟨[], none, 0, rfl, Nat.le_refl _, fun _ => rfl, fun i hi => by simp [strCells] at hi⟩
    · simp [Value.cells] at hcs
      obtain ⟨rfl, rfl, rfl⟩ := hcs
      exact ⟨_, readsC_strings (by simp at hz; omega) hl hcell⟩
  clear hA0 hval0
  refine (frameRows_walk z0 _ z1 _ W w0 w1).mono fun e W' ⟨he, bel⟩ => ?_
  subst he
  exact ⟨_, rfl, _, _, _, [], _, [], hW', trodAll_mk1 (shut_bool Try.underlying4 _), (trodAll_cons_mk (Below.trod frameRows_laid (by kernel_rfl) (of_decide_eq_true (by kernel_rfl)) k0 bel lt0) (trodAll_cons_mk (Below.trod frameRows_laid (by kernel_rfl) (of_decide_eq_true (by kernel_rfl)) k1 bel lt1) trodAll_mk0)), rfl, bel.frame _, fun h => by cases h⟩

theorem frameRows_holds : Rows.FrameRowsSaid :=
  OpenClaim.holds_of_wide 7 Try.f7 rfl rfl rfl rfl rfl rfl rfl ⟨rfl, rfl, rfl, rfl, rfl⟩ rfl rfl rfl rfl rfl (by kernel_rfl) Try.func7 (by kernel_rfl)
    (of_decide_eq_true (by kernel_rfl)) (by unfold Func.isWrapper; first | (rw [if_pos (by decide +kernel)]; kernel_rfl) | (rw [if_neg (by decide +kernel)]; exact ⟨rfl, rfl⟩))
    (fun os started H enc _ => frameRows_lifted os started H enc)
#print axioms frameRows_holds

end Go.Proofs.Ytdphmoldfglhmaa
