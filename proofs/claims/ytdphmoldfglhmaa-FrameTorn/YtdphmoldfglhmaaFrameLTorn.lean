/-
  Proved: for every list of texts, every place and every text the law FrameTorn of package bucketlinelaw4 returns true, and its arguments read as before: of a row that is cut anywhere just the payloads are read whose frames are whole, and the whole row is read, whatever stands behind that is shorter than a head. No condition.
-/
import Derived.Test.YtdphmoldfglhmaaFrameShown
import Derived.Test.YtdphmoldfglhmaaFrameRef2
import Derived.Test.YtdphmoldfglhmaaFrameMore
import Derived.Test.YtdphmoldfglhmaaReadsCap
import Derived.Deep.DeepCutAuto
import Derived.ProofKit
import Derived.OpenShut
import Derived.ShutString
namespace Go.Proofs.Ytdphmoldfglhmaa
open Go.ChangeShapes Go.WideShapes Go.ChangeAt Go.RowKit
open Go.ChangeMaps (open_string shut_string)
attribute [local go_sem] ext_Bd ext_Bl ext_Bt toList_B add_B size_B get_Bt

theorem frameTorn_own : ownKnob Try.prog.godebug = none := by kernel_rfl
theorem frameTorn_laid : laidOutB Try.prog = true := by kernel_rfl


theorem reads_front {w : World} {a : Option Addr} {cap k : Nat} {ls : List (List UInt8)} (hk : k ≤ ls.length) (hx : ∀ i, i < ls.length → ∃ b off, a = some ⟨b, off, none⟩ ∧ w.cell? ⟨b, off + i, none⟩ = (strCells ls)[i]?) :
    Reads w (.slice a k cap) (strCells (ls.take k)) := by
  have hlen : (strCells (ls.take k)).length = k := by rw [strCells_len, List.length_take]; omega
  refine ⟨a, cap, by rw [hlen], fun i hi => ?_⟩
  rw [hlen] at hi
  obtain ⟨b, off, h1, h2⟩ := hx i (by omega)
  refine ⟨b, off, h1, ?_⟩
  rw [h2]
  simp [strCells, hi]
theorem scan_tail {ls : List (List UInt8)} {m : List UInt8} (h : ∀ p ∈ ls, F.good p) (hm : m.length ≤ 7) : F.scan (F.frames ls ++ m) = (ls, (F.frames ls).length) := F.scan_row (F.take_few (by omega)) h

set_option maxHeartbeats 4000000 in
set_option maxRecDepth 100000 in
theorem frameTorn_in (ls : List (List UInt8)) (cut : Int) (more : List UInt8) (cu : Nat) (va : Value) (w : World) (ha : ReadsC w va (strCells ls)) (h30 : ls.length ≤ 30) (hgood : ∀ p ∈ ls, F.good p) (HC : Hid (max 0 (min cut ((F.frames ls).length : Int)) = cu)) :
    Calls Try.prog 5 #[va, .int .i64 cut, .string (B more)] w fun e w' => e = .returned (.bool true) ∧ Below w.heap.size w w' := by
  have hr0 := ha.reads
  obtain ⟨a, ca, rfl, hcap, hnone, hxa⟩ := ha
  simp only [strCells_len] at *
  have HXA := Lib.hid hxa; clear hxa
  have HGD := Lib.hid hgood; clear hgood
  have HZ := Lib.hid (F.codes_good HGD.out)
  have HRS := Lib.hid (rowS_ok HZ.out)
  have hfl : (F.frames ls).length ≤ 240240 := by have := frames_le HGD.out; omega
  have hcu : cu ≤ (F.frames ls).length := by have := HC.out; omega
  go_enter Try.func5, Try.ntmps5
  go_wp2_with fail
  refine (shown4_any w).mono ?_
  rintro e w1 ⟨rfl, hb1⟩
  go_wp2_with fail
  refine (small_l ls _ w1 (reads_below hr0 hb1)).mono ?_
  rintro e w2 ⟨hres, hq2⟩
  have hb2 := below_quiet hb1 hq2
  clear hq2 hb1
  rcases hres with rfl | ⟨rfl, _⟩
  · go_wp2
    go_ret
    exact ⟨rfl, hb2⟩
  go_wp2_with fail
  refine (chain (Row_at ls _ 0 _ w2 (reads_below hr0 hb2) (by omega) HRS HZ) hb2).mono ?_
  rintro e w3 ⟨rfl, hb3⟩
  clear hb2
  go_upto_region 8 with (fail)
  go_cut [1] (fun x wx => x = .int .i64 cu ∧ w3 = wx)
  case first =>
    generalize F.frames ls = fr at *
    rcases (by omega : (fr.length : Int) < cut ∨ cut ≤ fr.length) with h1 | h1
    · rcases (by omega : (0 : Int) < fr.length ∨ (fr.length : Int) ≤ 0) with h2 | h2
      all_goals
        go_wp2
        go_meet
        exact ⟨int_eq (by have := HC.out; omega), rfl⟩
    · rcases (by omega : (0 : Int) < cut ∨ cut ≤ 0) with h2 | h2
      all_goals
        go_wp2
        go_meet
        exact ⟨int_eq (by have := HC.out; omega), rfl⟩
  case rest =>
  obtain ⟨rfl, rfl⟩ := hcut
  clear HC
  have HCUT : Hid (∀ k, k ≤ ls.length → (F.frames (ls.take k)).length ≤ cu → (k = ls.length ∨ ∃ hk2 : k < ls.length, cu < (F.frames (ls.take k)).length + (ls[k].length + 8)) → F.scan ((F.frames ls).take cu) = (ls.take k, (F.frames (ls.take k)).length)) :=
    Lib.hid fun k h1 h2 h3 => F.scan_cut HGD.out h1 h2 h3
  have HTL : Hid (∀ m, m.length ≤ 7 → F.scan (F.frames ls ++ m) = (ls, (F.frames ls).length)) := Lib.hid fun m hm => scan_tail HGD.out hm
  clear HRS HZ
  generalize F.frames ls = fr at *
  have hcb : cu ≤ (B fr).size := by rw [size_B]; omega
  have hci : (cu : Int) ≤ fr.length := by omega
  go_wp2_with fail
  refine (Scan_l (fr.take cu) w3 (by rw [List.length_take]; omega)).mono ?_
  rintro e w4 ⟨v, rfl, hown4, hb4a⟩
  have hb4 := hb3.trans (hb4a.mono hb3.size)
  clear hb3 hb4a
  obtain ⟨ps, n, HPS⟩ : ∃ ps n, Hid (F.scan (fr.take cu) = (ps, n)) := ⟨_, _, Lib.hid rfl⟩
  rw [HPS.out] at hown4 ⊢
  have HR4 := Lib.hid (reads_own hown4)
  clear hown4
  have HXB : Hid (∀ i, i < ls.length → ∃ b off, a = some ⟨b, off, none⟩ ∧ w4.cell? ⟨b, off + i, none⟩ = (strCells ls)[i]?) := Lib.hid fun i hi => by
    obtain ⟨b, off, h1, h2⟩ := HXA.out i hi
    refine ⟨b, off, h1, ?_⟩
    have hh : (strCells ls)[i]? = some (.string (B ls[i])) := by simp [strCells, hi]
    rw [hh] at h2 ⊢
    rw [hb4.cell (World.block_lt_of_cell? w _ h2)]; exact h2
  go_wp2
  go_loop [13, 14] (fun y z => ∃ k : Nat, z = .int .i64 k ∧ k ≤ ls.length ∧ y = .int .i64 ((F.frames (ls.take k)).length : Nat) ∧ (F.frames (ls.take k)).length ≤ cu) (fun _ z => ls.length - (intOf z).toNat)
  case atStart => exact ⟨0, rfl, Nat.zero_le _, rfl, by simp [F.frames]⟩
  case round =>
    obtain ⟨k, rfl, hkl, rfl, hle⟩ := hrel
    by_cases hlt : k < ls.length
    · have hi1 : (k : Int) < (ls.length : Int) := by omega
      obtain ⟨b1, o1, rfl, hc1⟩ := HXB.out k hlt
      have hcell : w4.cell? ⟨b1, o1 + k, none⟩ = some (.string (B ls[k])) := by rw [hc1]; simp [strCells, hlt]
      clear hc1
      have HSTEP : Hid ((F.frames (ls.take (k + 1))).length = (F.frames (ls.take k)).length + (ls[k].length + 8)) := Lib.hid (by rw [F.frames_step hlt, List.length_append, F.frame_len])
      by_cases hfit : (F.frames (ls.take k)).length + 8 + ls[k].length ≤ cu
      · generalize ls[k] = x at *
        generalize (F.frames (ls.take k)).length = A at *
        have hf2 : (A : Int) + 8 + x.length ≤ cu := by omega
        go_wp2
        go_round
        case rel => exact ⟨k + 1, by go_num, by omega, by rw [HSTEP.out]; go_num, by rw [HSTEP.out]; omega⟩
        case measure => simp [intOf]; omega
      · have hxl : ls[k].length ≤ 8000 := (HGD.out _ (List.getElem_mem hlt)).2
        have HSC := Lib.hid (HCUT.out k hkl hle (.inr ⟨hlt, by omega⟩))
        generalize ls[k] = x at *
        generalize (F.frames (ls.take k)).length = A at *
        have hf2 : ¬ (A : Int) + 8 + x.length ≤ cu := by omega
        have hps : ps = ls.take k := by have := HPS.out.symm.trans HSC.out; exact (Prod.mk.inj this).1
        have hnn : n = A := by have := HPS.out.symm.trans HSC.out; exact (Prod.mk.inj this).2
        subst hps hnn
        have hka : k ≤ ca := by omega
        have hki : (k : Int) ≤ ca := by omega
        go_wp2_with fail
        refine (same_l (ls.take k) (ls.take k) v _ w4 HR4.out (reads_front hkl HXB.out) (by rw [List.length_take]; omega)).mono ?_
        rintro e w5 ⟨rfl, hq5⟩
        have hb5 := below_quiet hb4 hq5
        rw [decide_eq_true (rfl : ls.take k = ls.take k)]
        clear hq5
        by_cases h7 : 7 < more.length
        · have hm7 : 7 ≤ (B more).size := by rw [size_B]; omega
          have hmi : (7 : Int) ≤ more.length := by omega
          have hml : (more.take 7).length ≤ 7 := by rw [List.length_take]; omega
          have hsum : (fr ++ more.take 7).length ≤ 1000000 := by rw [List.length_append]; omega
          go_wp2_with fail
          refine (Scan_l (fr ++ more.take 7) w5 hsum).mono ?_
          rintro e w6 ⟨v6, rfl, hown6, hb6⟩
          rw [HTL.out _ hml] at hown6 ⊢
          have hr6 := reads_own hown6
          have hb7 := hb5.trans (hb6.mono hb5.size)
          clear hown6 hb6 hb5 hb4
          go_wp2_with fail
          refine (same_l ls ls v6 _ w6 hr6 (reads_below hr0 hb7) (by omega)).mono ?_
          rintro e w8 ⟨rfl, hq8⟩
          have hb8 := below_quiet hb7 hq8
          rw [decide_eq_true (rfl : ls = ls)]
          clear hq8
          go_wp2
          go_ret
          exact ⟨rfl, hb8⟩
        · have hml : more.length ≤ 7 := by omega
          have hsum : (fr ++ more).length ≤ 1000000 := by rw [List.length_append]; omega
          go_wp2_with fail
          refine (Scan_l (fr ++ more) w5 hsum).mono ?_
          rintro e w6 ⟨v6, rfl, hown6, hb6⟩
          rw [HTL.out _ hml] at hown6 ⊢
          have hr6 := reads_own hown6
          have hb7 := hb5.trans (hb6.mono hb5.size)
          clear hown6 hb6 hb5 hb4
          go_wp2_with fail
          refine (same_l ls ls v6 _ w6 hr6 (reads_below hr0 hb7) (by omega)).mono ?_
          rintro e w8 ⟨rfl, hq8⟩
          have hb8 := below_quiet hb7 hq8
          rw [decide_eq_true (rfl : ls = ls)]
          clear hq8
          go_wp2
          go_ret
          exact ⟨rfl, hb8⟩
    · have hkn : k = ls.length := by omega
      have HSC := Lib.hid (HCUT.out k hkl hle (.inl hkn))
      clear hkn
      have hi1 : ¬ (k : Int) < (ls.length : Int) := by omega
      generalize (F.frames (ls.take k)).length = A at *
      have hps : ps = ls.take k := by have := HPS.out.symm.trans HSC.out; exact (Prod.mk.inj this).1
      have hnn : n = A := by have := HPS.out.symm.trans HSC.out; exact (Prod.mk.inj this).2
      subst hps hnn
      have hka : k ≤ ca := by omega
      have hki : (k : Int) ≤ ca := by omega
      go_wp2_with fail
      refine (same_l (ls.take k) (ls.take k) v _ w4 HR4.out (reads_front hkl HXB.out) (by rw [List.length_take]; omega)).mono ?_
      rintro e w5 ⟨rfl, hq5⟩
      have hb5 := below_quiet hb4 hq5
      rw [decide_eq_true (rfl : ls.take k = ls.take k)]
      clear hq5
      by_cases h7 : 7 < more.length
      · have hm7 : 7 ≤ (B more).size := by rw [size_B]; omega
        have hmi : (7 : Int) ≤ more.length := by omega
        have hml : (more.take 7).length ≤ 7 := by rw [List.length_take]; omega
        have hsum : (fr ++ more.take 7).length ≤ 1000000 := by rw [List.length_append]; omega
        go_wp2_with fail
        refine (Scan_l (fr ++ more.take 7) w5 hsum).mono ?_
        rintro e w6 ⟨v6, rfl, hown6, hb6⟩
        rw [HTL.out _ hml] at hown6 ⊢
        have hr6 := reads_own hown6
        have hb7 := hb5.trans (hb6.mono hb5.size)
        clear hown6 hb6 hb5 hb4
        go_wp2_with fail
        refine (same_l ls ls v6 _ w6 hr6 (reads_below hr0 hb7) (by omega)).mono ?_
        rintro e w8 ⟨rfl, hq8⟩
        have hb8 := below_quiet hb7 hq8
        rw [decide_eq_true (rfl : ls = ls)]
        clear hq8
        go_wp2
        go_ret
        exact ⟨rfl, hb8⟩
      · have hml : more.length ≤ 7 := by omega
        have hsum : (fr ++ more).length ≤ 1000000 := by rw [List.length_append]; omega
        go_wp2_with fail
        refine (Scan_l (fr ++ more) w5 hsum).mono ?_
        rintro e w6 ⟨v6, rfl, hown6, hb6⟩
        rw [HTL.out _ hml] at hown6 ⊢
        have hr6 := reads_own hown6
        have hb7 := hb5.trans (hb6.mono hb5.size)
        clear hown6 hb6 hb5 hb4
        go_wp2_with fail
        refine (same_l ls ls v6 _ w6 hr6 (reads_below hr0 hb7) (by omega)).mono ?_
        rintro e w8 ⟨rfl, hq8⟩
        have hb8 := below_quiet hb7 hq8
        rw [decide_eq_true (rfl : ls = ls)]
        clear hq8
        go_wp2
        go_ret
        exact ⟨rfl, hb8⟩

set_option maxHeartbeats 1000000 in
set_option maxRecDepth 100000 in
theorem frameTorn_out (ls : List (List UInt8)) (cut : Int) (more : List UInt8) (va : Value) (w : World) (ha : Reads w va (strCells ls)) (h : 30 < ls.length ∨ F.codes ls ≠ 0) :
    Calls Try.prog 5 #[va, .int .i64 cut, .string (B more)] w fun e w' => e = .returned (.bool true) ∧ Below w.heap.size w w' := by
  have HH := Lib.hid h; clear h
  go_enter Try.func5, Try.ntmps5
  go_wp2_with fail
  refine (shown4_any w).mono ?_
  rintro e w1 ⟨rfl, hb1⟩
  go_wp2_with fail
  refine (small_l ls va w1 (reads_below ha hb1)).mono ?_
  rintro e w2 ⟨hres, hq2⟩
  have hb2 := below_quiet hb1 hq2
  clear hq2 hb1
  rcases hres with rfl | ⟨rfl, h30⟩
  · go_wp2
    go_ret
    exact ⟨rfl, hb2⟩
  have hne : F.codes ls ≠ 0 := by
    rcases HH.out with h | h
    · omega
    · exact h
  have HRS := Lib.hid (rowS_bad hne)
  obtain ⟨c, HC⟩ : ∃ c, Hid (F.codes ls = c) := ⟨_, Lib.hid rfl⟩
  rw [HC.out] at hne
  have hc0 : ((c : Int) == 0) = false := beq_eq_false_iff_ne.2 (by omega)
  clear hne HH
  go_wp2_with fail
  refine (chain (Row_at ls _ c va w2 (reads_below ha hb2) (by omega) HRS HC) hb2).mono ?_
  rintro e w3 ⟨rfl, hb3⟩
  go_wp2
  go_ret
  exact ⟨rfl, hb3⟩

theorem frameTorn_walk (ls : List (List UInt8)) (va : Value) (cut : Int) (_ : (Lit.int .i64 cut).wf = true) (s : ByteArray) (w : World) (ha : ReadsC w va (strCells ls)) :
    Calls Try.prog 5 #[va, .int .i64 cut, .string s] w fun e w' => e = .returned (.bool true) ∧ Below w.heap.size w w' := by
  rw [← B_L s]
  by_cases h : 30 < ls.length ∨ F.codes ls ≠ 0
  · exact frameTorn_out ls cut (L s) va w ha.reads h
  · exact frameTorn_in ls cut (L s) (max 0 (min cut ((F.frames ls).length : Int))).toNat va w ha (by omega) (F.codes_zero (by omega)) (Lib.hid (by omega))

set_option maxRecDepth 100000 in
theorem frameTorn_lifted (os : Os) (started : os.Started) (H : Type) (enc : TypeId × Value → H) :
    ReturnsInHanded {} Try.checked os 5 .any (Rows.frameTornSpec.pre6 enc Try.prog Try.f5 Rows.frameTornRow.domain false) (Rows.frameTornSpec.post enc Try.prog Try.f5 false true false false) := by
  refine returnsInHanded_of_change (C := Try.checked) frameTorn_own started (by kernel_rfl) Try.func5
    (ChangeSpec.witness6 (enc := enc) (C := Try.checked) false ⟨#[], #[.slice none 0 0, .int .i64 0, .string ByteArray.empty], []⟩ 8 (by kernel_rfl) (by kernel_rfl) (by kernel_rfl) (by kernel_rfl)) ?_
  intro W base args ds gs before hval0 hW _ _
  have hval : ∀ (j : Nat) t v, Try.f5.params[j]? = some t → args[j]? = some v → Value.okWide Try.prog W .any base t v := hval0
  have hW' := hW
  obtain ⟨p, q, hA0, hV, rfl, hfz, hnd⟩ := hW
  have hA : DataW.TrodAll enc Try.prog W 0 (fun _ => true) true Try.f5.params.toList args.toList ds p := hA0
  rw [Try.params5] at hA hval
  obtain ⟨v0, vs0, d0, ds0, p0, q0, hargs, rfl, rfl, h0, r0⟩ := trodAll_cons hA
  obtain ⟨v1, vs1, d1, ds1, p1, q1, rfl, rfl, rfl, h1, r1⟩ := trodAll_cons r0
  obtain ⟨v2, vs2, d2, ds2, p2, q2, rfl, rfl, rfl, h2, r2⟩ := trodAll_cons r1
  obtain ⟨rfl, rfl, rfl⟩ := trodAll_nil r2
  obtain rfl : args = #[v0, v1, v2] := by cases args; simp_all
  obtain ⟨rfl, rfl⟩ := trodVars_none hV
  obtain ⟨a0, len0, cap0, rfl⟩ := okWide_slice Try.underlying22 (hval 0 22 v0 rfl rfl)
  have k0 := h0
  have lt0 : ∀ x ∈ p0, x.block < W.heap.size := by obtain ⟨m, hm⟩ := k0; exact DataW.trod_lt m _ _ _ hm
  obtain ⟨z0, w0⟩ : ∃ zs, ReadsC W (.slice a0 len0 cap0) (strCells zs) := by
    obtain ⟨fuel, hf⟩ := h0
    rcases open_strings Try.underlying22 Try.underlying9 (by kernel_rfl) hf with ⟨hcs, _⟩ | ⟨x, l, c, ss, hcs, _, hl, hm, hz, _, hcell, hwz⟩
    · simp [Value.cells] at hcs
      obtain ⟨rfl, rfl, rfl⟩ := hcs
      exact ⟨[], none, 0, rfl, Nat.le_refl _, fun _ => rfl, fun i hi => by simp [strCells] at hi⟩
    · simp [Value.cells] at hcs
      obtain ⟨rfl, rfl, rfl⟩ := hcs
      exact ⟨_, readsC_strings (by simp at hz; omega) hl hcell⟩
  obtain ⟨a1, rfl, rfl, rfl, w1⟩ := open_int Try.underlying3 (hval 1 3 v1 rfl rfl) h1
  obtain ⟨a2, rfl, rfl, rfl, w2⟩ := open_string Try.underlying9 (hval 2 9 v2 rfl rfl) h2
  clear hA0 hval0
  refine (frameTorn_walk z0 _ a1 w1 a2 W w0).mono fun e W' ⟨he, bel⟩ => ?_
  subst he
  exact ⟨_, rfl, _, _, _, [], _, [], hW', trodAll_mk1 (shut_bool Try.underlying4 _), (trodAll_cons_mk (Below.trod frameTorn_laid (by kernel_rfl) (of_decide_eq_true (by kernel_rfl)) k0 bel lt0) (trodAll_cons_mk (shut_int Try.underlying3 w1) (trodAll_cons_mk (shut_string Try.underlying9 w2) trodAll_mk0))), rfl, bel.frame _, fun h => by cases h⟩

theorem frameTorn_holds : Rows.FrameTornSaid :=
  OpenClaim.holds_of_wide 5 Try.f5 rfl rfl rfl rfl rfl rfl rfl ⟨rfl, rfl, rfl, rfl, rfl⟩ rfl rfl rfl rfl rfl (by kernel_rfl) Try.func5 (by kernel_rfl)
    (of_decide_eq_true (by kernel_rfl)) (by unfold Func.isWrapper; first | (rw [if_pos (by decide +kernel)]; kernel_rfl) | (rw [if_neg (by decide +kernel)]; exact ⟨rfl, rfl⟩))
    (fun os started H enc _ => frameTorn_lifted os started H enc)
#print axioms frameTorn_holds

end Go.Proofs.Ytdphmoldfglhmaa
