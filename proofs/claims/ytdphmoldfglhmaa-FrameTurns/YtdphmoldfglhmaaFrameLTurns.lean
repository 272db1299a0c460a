/-
  Proved: for every text, every place and all bits the law FrameTurns of package bucketlinelaw4 returns true, and its arguments read as before: a frame of which up to 32 bits beside one another are turned, behind its sum, is refused. No condition.
-/
import Derived.Test.YtdphmoldfglhmaaFrameShown
import Derived.Test.YtdphmoldfglhmaaFrameRef2
import Derived.Test.YtdphmoldfglhmaaFrameMore
import Derived.Test.YtdphmoldfglhmaaBytesRow
import Derived.Deep.RegionHeld3
import Derived.ProofKit
import Derived.OpenShut
import Derived.ShutString
namespace Go.Proofs.Ytdphmoldfglhmaa
open Go.ChangeShapes Go.WideShapes Go.ChangeAt Go.RowKit
open Go.ChangeMaps (open_string shut_string)
attribute [local go_sem] ext_Bd ext_Bl ext_Bt toList_B add_B size_B get_Bt

theorem frameTurns_own : ownKnob Try.prog.godebug = none := by kernel_rfl


set_option maxHeartbeats 1000000 in
set_option maxRecDepth 100000 in
theorem frameTurns_out (p : List UInt8) (s : List UInt8) (c m : Nat) (pl : Int) (w : World) (HS : Hid (putS p = s)) (HC : Hid (F.code p = c)) (hsl : s.length ≤ 8008) (h : 2000 < p.length ∨ c ≠ 0 ∨ m = 0 ∨ pl < 64 ∨ 8 * (s.length : Int) ≤ pl) :
    Calls Try.prog 6 #[.string (B p), .int .i64 pl, .int .u32 m] w fun e w' => e = .returned (.bool true) ∧ Below w.heap.size w w' := by
  rcases (by omega : 2000 < p.length ∨ (p.length ≤ 2000 ∧ c ≠ 0) ∨ (p.length ≤ 2000 ∧ c = 0 ∧ m = 0) ∨ (p.length ≤ 2000 ∧ c = 0 ∧ m ≠ 0 ∧ pl < 64) ∨ (p.length ≤ 2000 ∧ c = 0 ∧ m ≠ 0 ∧ 64 ≤ pl ∧ 8 * (s.length : Int) ≤ pl)) with h1 | ⟨h1, h2⟩ | ⟨h1, h2, h3⟩ | ⟨h1, h2, h3, h4⟩ | ⟨h1, h2, h3, h4, h5⟩
  · clear h
    go_enter Try.func6, Try.ntmps6
    go_wp2_with fail
    refine (shown4_any w).mono ?_
    rintro e w1 ⟨rfl, hb1⟩
    go_wp2_with fail
    refine (chain (Put_at p s c w1 HS HC) hb1).mono ?_
    rintro e w2 ⟨rfl, hb2⟩
    go_wp2
    go_ret
    exact ⟨rfl, hb2⟩
  · have hcb : ((c : Int) == 0) = false := beq_eq_false_iff_ne.2 (by omega)
    have h2n : ¬ c = 0 := h2
    clear h h2
    go_enter Try.func6, Try.ntmps6
    go_wp2_with fail
    refine (shown4_any w).mono ?_
    rintro e w1 ⟨rfl, hb1⟩
    go_wp2_with fail
    refine (chain (Put_at p s c w1 HS HC) hb1).mono ?_
    rintro e w2 ⟨rfl, hb2⟩
    go_wp2
    go_ret
    exact ⟨rfl, hb2⟩
  · subst h2 h3
    clear h
    go_enter Try.func6, Try.ntmps6
    go_wp2_with fail
    refine (shown4_any w).mono ?_
    rintro e w1 ⟨rfl, hb1⟩
    go_wp2_with fail
    refine (chain (Put_at p s 0 w1 HS HC) hb1).mono ?_
    rintro e w2 ⟨rfl, hb2⟩
    go_wp2
    go_ret
    exact ⟨rfl, hb2⟩
  · have hmb : ((m : Int) == 0) = false := beq_eq_false_iff_ne.2 (by omega)
    subst h2
    clear h h3
    go_enter Try.func6, Try.ntmps6
    go_wp2_with fail
    refine (shown4_any w).mono ?_
    rintro e w1 ⟨rfl, hb1⟩
    go_wp2_with fail
    refine (chain (Put_at p s 0 w1 HS HC) hb1).mono ?_
    rintro e w2 ⟨rfl, hb2⟩
    go_wp2
    go_ret
    exact ⟨rfl, hb2⟩
  · have hmb : ((m : Int) == 0) = false := beq_eq_false_iff_ne.2 (by omega)
    subst h2
    clear h h3
    go_enter Try.func6, Try.ntmps6
    go_wp2_with fail
    refine (shown4_any w).mono ?_
    rintro e w1 ⟨rfl, hb1⟩
    go_wp2_with fail
    refine (chain (Put_at p s 0 w1 HS HC) hb1).mono ?_
    rintro e w2 ⟨rfl, hb2⟩
    go_wp2
    go_ret
    exact ⟨rfl, hb2⟩

set_option maxHeartbeats 4000000 in
set_option maxRecDepth 100000 in
theorem frameTurns_in (p l : List UInt8) (m q0 : Nat) (w : World) (hg : F.good p) (hp2 : p.length ≤ 2000) (hm : m < 4294967296) (hm0 : m ≠ 0) (HL : Hid (F.frame p = l)) (h64 : 64 ≤ q0) (hq0 : q0 < 8 * l.length) :
    Calls Try.prog 6 #[.string (B p), .int .i64 q0, .int .u32 m] w fun e w' => e = .returned (.bool true) ∧ Below w.heap.size w w' := by
  have hmb : ((m : Int) == 0) = false := beq_eq_false_iff_ne.2 (by omega)
  have hpb : (q0 : Int) < 8 * (l.length : Int) := by omega
  have hll : l.length = p.length + 8 := by rw [← HL.out]; exact F.frame_len p
  have HPS := Lib.hid (show putS p = l by rw [← HL.out]; exact putS_ok hg)
  have HPC := Lib.hid (F.code_good hg)
  have HTK := Lib.hid (show tkRes (F.take l) = .tuple #[.string (B p), .string (B []), .int .i64 0] by
    have := F.take_frame hg []
    rw [List.append_nil, HL.out] at this
    rw [this]; exact tkRes_ok p [])
  have HFIN : Hid (∀ (t : List UInt8) (k : Nat), t.length = l.length → C.val t = C.val l ^^^ 2 ^ q0 * (m % 2 ^ k) → ¬ t = l → F.take t = .bad 5) := Lib.hid fun t k h1 h2 h3 => by
    rw [← HL.out] at h1 h2 h3 hq0
    exact F.turned hg h1 (Nat.lt_of_le_of_lt (Nat.mod_le m (2 ^ k)) hm) h64 (by omega) h2 h3
  clear hg HL
  have kc := fun (w : World) (s : ByteArray) => run_bytes_of_string (P := Try.prog) w 9 38 5 s Try.underlying9 Try.underlying38 Try.underlying5
  go_enter Try.func6, Try.ntmps6
  go_wp2_with fail
  refine (shown4_any w).mono ?_
  rintro e w0 ⟨rfl, hb0⟩
  go_wp2_with fail
  refine (chain (Put_at p l 0 w0 HPS HPC) hb0).mono ?_
  rintro e w1 ⟨rfl, hb1⟩
  clear hb0
  have HLL := Lib.hid hll; clear hll
  have hl8 : l.length ≤ 2008 := by have := HLL.out; omega
  go_wp2
  have hrow := row_made hb1 l (grownCap w1 l.length 0 5)
  generalize (w1.alloc (.cells (bytesRow (B l) (grownCap w1 l.length 0 5)) 5 ((bytesRow (B l) (grownCap w1 l.length 0 5)).size, (bytesRow (B l) (grownCap w1 l.length 0 5)).size + 1))).drew = w2 at *
  generalize grownCap w1 l.length 0 5 = cap at *
  generalize w1.heap.size = g at *
  clear kc hb1
  have HROW := Lib.hid hrow; clear hrow
  go_loopw [11] (fun i wr => ∃ (k : Nat) (t : List UInt8), i = .int .i64 k ∧ k ≤ 32 ∧ q0 + k ≤ 8 * l.length ∧ t.length = l.length ∧ C.val t = C.val l ^^^ 2 ^ q0 * (m % 2 ^ k) ∧ Row w wr g t) (fun i _ => 32 - (intOf i).toNat)
  case atStart => exact ⟨0, l, rfl, by omega, by omega, rfl, by simp [Nat.mod_one], HROW.out⟩
  case round =>
    clear HROW
    obtain ⟨k, t, rfl, hk, hpk, htl, hv, hr⟩ := hrel
    have HR := Lib.hid hr; clear hr
    have HV := Lib.hid hv; clear hv
    have HTL := Lib.hid htl; clear htl
    by_cases hgo : k < 32 ∧ q0 + k < 8 * l.length
    · obtain ⟨hg1, hg2⟩ := hgo
      have hb1 : (k : Int) < 32 := by omega
      have hb2 : (q0 : Int) + k < 8 * (l.length : Int) := by omega
      by_cases hbit : m / 2 ^ k % 2 = 1
      · have HBIT := Lib.hid hbit
        have hby := bit_yes hm hbit
        clear hbit
        obtain ⟨q, hq⟩ : ∃ q : Nat, q = q0 + k := ⟨_, rfl⟩
        have hqi : (q0 : Int) + k = q := by omega
        have hq8 : q / 8 < t.length := by rw [HTL.out]; omega
        have hcell := HR.out.cell (q / 8) hq8
        have hfz := HR.out.loose (q / 8) hq8
        rw [HTL.out] at hq8
        have hqb : (q : Int) / 8 < (l.length : Int) := by omega
        have HQ := Lib.hid hq; clear hq
        go_wp2
        go_region
        all_goals (try go_wp2)
        have hbt := N.bt_lt t (q / 8)
        obtain ⟨hf1, hf2⟩ := flip_val hbt (show q % 8 < 8 by omega)
        have hb8 := N.u8_nat hf2
        have hq9 : q / 8 < t.length := by rw [HTL.out]; exact hq8
        have hr2 := HR.out.flip hq9 (N.bt t (q / 8) ^^^ 2 ^ (q % 8)).toUInt8
        rw [hb8, ← hf1] at hr2
        go_roundw
        case rel => exact ⟨k + 1, t.set (q / 8) (N.bt t (q / 8) ^^^ 2 ^ (q % 8)).toUInt8, by go_num, by omega, by omega, by rw [List.length_set]; exact HTL.out, val_go HQ.out HV.out HBIT.out hq9 hb8, hr2⟩
        case measure => simp [intOf]; omega
      · have hbn : m / 2 ^ k % 2 = 0 := by omega
        have HBN := Lib.hid (C.bits_more_none hbn)
        have hby := bit_no hm hbn
        clear hbit hbn
        go_wp2
        go_roundw
        case rel => exact ⟨k + 1, t, by go_num, by omega, by omega, HTL.out, by rw [HBN.out]; exact HV.out, HR.out⟩
        case measure => simp [intOf]; omega
    · by_cases hk32 : k < 32
      · have hb1 : (k : Int) < 32 := by omega
        have hb2 : 8 * (l.length : Int) ≤ (q0 : Int) + k := by omega
        have hconv := HR.out.conv cap HTL.out.symm
        have HBW := Lib.hid HR.out.below
        have htl : t.length ≤ 2008 := by rw [HTL.out]; omega
        by_cases heq : t = l
        · have HT2 := Lib.hid (show tkRes (F.take t) = .tuple #[.string (B p), .string (B []), .int .i64 0] by rw [heq]; exact HTK.out)
          have hbB : (t == l) = true := beq_iff_eq.2 heq
          have HEQ := Lib.hid heq; clear heq
          clear HV HFIN
          go_wp2_with fail
          refine (Take_at t _ wr (by omega) HT2).mono ?_
          rintro e w3 ⟨rfl, hb3⟩
          have HR3 := Lib.hid (HR.out.after hb3)
          have hconv3 := HR3.out.conv cap HTL.out.symm
          have hbb := HR3.out.below
          clear hconv hb3
          go_wp2
          go_ret
          exact ⟨rfl, hbb⟩
        · have HBAD := Lib.hid (HFIN.out t k HTL.out HV.out heq)
          have HT2 := Lib.hid (show tkRes (F.take t) = .tuple #[.string (B []), .string (B []), .int .i64 (5 : Nat)] by rw [HBAD.out]; exact tkRes_bad 5)
          have HSN := Lib.hid (F.scan_bad HBAD.out)
          have hbB : (t == l) = false := beq_eq_false_iff_ne.2 heq
          clear heq HV HFIN
          go_wp2_with fail
          refine (Take_at t _ wr (by omega) HT2).mono ?_
          rintro e w3 ⟨rfl, hb3⟩
          have HR3 := Lib.hid (HR.out.after hb3)
          have hconv3 := HR3.out.conv cap HTL.out.symm
          have hbb := HR3.out.below
          clear hconv hb3
          go_wp2_with fail
          refine (Scan_l t w3 (by omega)).mono ?_
          rintro e w4 ⟨v4, rfl, hown4, hb4⟩
          rw [HSN.out] at hown4 ⊢
          obtain ⟨a4, c4, rfl, _⟩ := reads_own hown4
          have hbb4 := hbb.trans (hb4.mono hbb.size)
          clear hown4 hb4 hconv3 hbb
          go_wp2
          go_ret
          exact ⟨rfl, hbb4⟩
      · have hb1 : (32 : Int) ≤ k := by omega
        have hconv := HR.out.conv cap HTL.out.symm
        have HBW := Lib.hid HR.out.below
        have htl : t.length ≤ 2008 := by rw [HTL.out]; omega
        by_cases heq : t = l
        · have HT2 := Lib.hid (show tkRes (F.take t) = .tuple #[.string (B p), .string (B []), .int .i64 0] by rw [heq]; exact HTK.out)
          have hbB : (t == l) = true := beq_iff_eq.2 heq
          have HEQ := Lib.hid heq; clear heq
          clear HV HFIN
          go_wp2_with fail
          refine (Take_at t _ wr (by omega) HT2).mono ?_
          rintro e w3 ⟨rfl, hb3⟩
          have HR3 := Lib.hid (HR.out.after hb3)
          have hconv3 := HR3.out.conv cap HTL.out.symm
          have hbb := HR3.out.below
          clear hconv hb3
          go_wp2
          go_ret
          exact ⟨rfl, hbb⟩
        · have HBAD := Lib.hid (HFIN.out t k HTL.out HV.out heq)
          have HT2 := Lib.hid (show tkRes (F.take t) = .tuple #[.string (B []), .string (B []), .int .i64 (5 : Nat)] by rw [HBAD.out]; exact tkRes_bad 5)
          have HSN := Lib.hid (F.scan_bad HBAD.out)
          have hbB : (t == l) = false := beq_eq_false_iff_ne.2 heq
          clear heq HV HFIN
          go_wp2_with fail
          refine (Take_at t _ wr (by omega) HT2).mono ?_
          rintro e w3 ⟨rfl, hb3⟩
          have HR3 := Lib.hid (HR.out.after hb3)
          have hconv3 := HR3.out.conv cap HTL.out.symm
          have hbb := HR3.out.below
          clear hconv hb3
          go_wp2_with fail
          refine (Scan_l t w3 (by omega)).mono ?_
          rintro e w4 ⟨v4, rfl, hown4, hb4⟩
          rw [HSN.out] at hown4 ⊢
          obtain ⟨a4, c4, rfl, _⟩ := reads_own hown4
          have hbb4 := hbb.trans (hb4.mono hbb.size)
          clear hown4 hb4 hconv3 hbb
          go_wp2
          go_ret
          exact ⟨rfl, hbb4⟩

theorem frameTurns_walk (s : ByteArray) (pl : Int) (_ : (Lit.int .i64 pl).wf = true) (y : Int) (hy : (Lit.int .u32 y).wf = true) (w : World) :
    Calls Try.prog 6 #[.string s, .int .i64 pl, .int .u32 y] w fun e w' => e = .returned (.bool true) ∧ Below w.heap.size w w' := by
  obtain ⟨m, rfl, hm⟩ := u32_nat hy
  rw [← B_L s]
  generalize L s = p
  have hsl : (putS p).length ≤ 8008 := by
    by_cases hc : F.code p = 0
    · have hg := F.code_zero hc
      rw [putS_ok hg, F.frame_len]; have := hg.2; omega
    · rw [putS_bad hc]; simp
  by_cases h : 2000 < p.length ∨ F.code p ≠ 0 ∨ m = 0 ∨ pl < 64 ∨ 8 * ((putS p).length : Int) ≤ pl
  · exact frameTurns_out p _ _ m pl w (Lib.hid rfl) (Lib.hid rfl) hsl h
  · have hg : F.good p := F.code_zero (by omega)
    rw [putS_ok hg] at h
    obtain ⟨q0, rfl⟩ : ∃ q0 : Nat, pl = q0 := ⟨pl.toNat, by omega⟩
    exact frameTurns_in p _ m q0 w hg (by omega) hm (by omega) (Lib.hid rfl) (by omega) (by omega)

set_option maxRecDepth 100000 in
theorem frameTurns_lifted (os : Os) (started : os.Started) (H : Type) (enc : TypeId × Value → H) :
    ReturnsInHanded {} Try.checked os 6 .any (Rows.frameTurnsSpec.pre6 enc Try.prog Try.f6 Rows.frameTurnsRow.domain false) (Rows.frameTurnsSpec.post enc Try.prog Try.f6 false true false false) := by
  refine returnsInHanded_of_change (C := Try.checked) frameTurns_own started (by kernel_rfl) Try.func6
    (ChangeSpec.witness6 (enc := enc) (C := Try.checked) false ⟨#[], #[.string ByteArray.empty, .int .i64 0, .int .u32 0], []⟩ 8 (by kernel_rfl) (by kernel_rfl) (by kernel_rfl) (by kernel_rfl)) ?_
  intro W base args ds gs before hval0 hW _ _
  have hval : ∀ (j : Nat) t v, Try.f6.params[j]? = some t → args[j]? = some v → Value.okWide Try.prog W .any base t v := hval0
  have hW' := hW
  obtain ⟨p, q, hA0, hV, rfl, hfz, hnd⟩ := hW
  have hA : DataW.TrodAll enc Try.prog W 0 (fun _ => true) true Try.f6.params.toList args.toList ds p := hA0
  rw [Try.params6] at hA hval
  obtain ⟨v0, vs0, d0, ds0, p0, q0, hargs, rfl, rfl, h0, r0⟩ := trodAll_cons hA
  obtain ⟨v1, vs1, d1, ds1, p1, q1, rfl, rfl, rfl, h1, r1⟩ := trodAll_cons r0
  obtain ⟨v2, vs2, d2, ds2, p2, q2, rfl, rfl, rfl, h2, r2⟩ := trodAll_cons r1
  obtain ⟨rfl, rfl, rfl⟩ := trodAll_nil r2
  obtain rfl : args = #[v0, v1, v2] := by cases args; simp_all
  obtain ⟨rfl, rfl⟩ := trodVars_none hV
  obtain ⟨a0, rfl, rfl, rfl, w0⟩ := open_string Try.underlying9 (hval 0 9 v0 rfl rfl) h0
  obtain ⟨a1, rfl, rfl, rfl, w1⟩ := open_int Try.underlying3 (hval 1 3 v1 rfl rfl) h1
  obtain ⟨a2, rfl, rfl, rfl, w2⟩ := open_int Try.underlying37 (hval 2 37 v2 rfl rfl) h2
  clear hA0 hval0
  simp only [List.append_nil] at hW'
  refine (frameTurns_walk a0 a1 w1 a2 w2 W).mono fun e W' ⟨he, bel⟩ => ?_
  subst he
  exact ⟨_, rfl, _, _, _, [], [], [], hW', trodAll_mk1 (shut_bool Try.underlying4 _), (trodAll_cons_mk (shut_string Try.underlying9 w0) (trodAll_cons_mk (shut_int Try.underlying3 w1) (trodAll_cons_mk (shut_int Try.underlying37 w2) trodAll_mk0))), rfl, bel.frame _, fun h => by cases h⟩

theorem frameTurns_holds : Rows.FrameTurnsSaid :=
  OpenClaim.holds_of_wide 6 Try.f6 rfl rfl rfl rfl rfl rfl rfl ⟨rfl, rfl, rfl, rfl, rfl⟩ rfl rfl rfl rfl rfl (by kernel_rfl) Try.func6 (by kernel_rfl)
    (of_decide_eq_true (by kernel_rfl)) (by unfold Func.isWrapper; first | (rw [if_pos (by decide +kernel)]; kernel_rfl) | (rw [if_neg (by decide +kernel)]; exact ⟨rfl, rfl⟩))
    (fun os started H enc _ => frameTurns_lifted os started H enc)
#print axioms frameTurns_holds

end Go.Proofs.Ytdphmoldfglhmaa
