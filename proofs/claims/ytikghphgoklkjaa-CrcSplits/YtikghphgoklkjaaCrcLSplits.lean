/-
  Proved: for every number and every list of texts the law CrcSplits of package bucketlinelaw3 returns true, and its arguments read as before: a text that is summed in parts, however it is cut, has the sum that it has at once. No condition.
-/
import Derived.Test.YtikghphgoklkjaaCrcShown
import Derived.ProofKit
import Derived.OpenShut
import Derived.ShutString
namespace Go.Proofs.Ytikghphgoklkjaa
open Go.ChangeShapes Go.WideShapes Go.ChangeAt Go.RowKit
open Go.ChangeMaps (open_string shut_string)
attribute [local go_sem] ext_Bd ext_Bl ext_Bt toList_B add_B size_B get_Bt

theorem crcSplits_own : ownKnob Try.prog.godebug = none := by kernel_rfl
theorem crcSplits_laid : laidOutB Try.prog = true := by kernel_rfl

def joins (ws : List (List UInt8)) : List UInt8 := ws.flatMap id
theorem joins_step {ws : List (List UInt8)} {k : Nat} (h : k < ws.length) : joins (ws.take (k + 1)) = joins (ws.take k) ++ ws[k] := by
  unfold joins
  rw [List.take_succ_eq_append_getElem h, List.flatMap_append, List.flatMap_cons, List.flatMap_nil, List.append_nil, id_eq]

set_option maxHeartbeats 1000000 in
set_option maxRecDepth 100000 in
theorem crcSplits_big (c : Nat) (ws : List (List UInt8)) (va : Value) (w : World) (ha : Reads w va (strCells ws)) (h : 20 < ws.length) :
    Calls Try.prog 6 #[.int .u32 c, va] w fun e w' => e = .returned (.bool true) ∧ Below w.heap.size w w' := by
  obtain ⟨a, ca, rfl, hxa⟩ := ha
  simp only [strCells_len] at *
  clear hxa
  go_enter Try.func6, Try.ntmps6
  go_wp2_with fail
  refine (shown3_any w).mono ?_
  rintro e w1 ⟨rfl, hb1⟩
  go_wp2
  go_ret
  exact ⟨rfl, hb1⟩

set_option maxHeartbeats 4000000 in
set_option maxRecDepth 100000 in
theorem crcSplits_small (c : Nat) (ws : List (List UInt8)) (va : Value) (w : World) (hc : c < 4294967296) (ha : Reads w va (strCells ws)) (h20 : ws.length ≤ 20) :
    Calls Try.prog 6 #[.int .u32 c, va] w fun e w' => e = .returned (.bool true) ∧ Below w.heap.size w w' := by
  obtain ⟨a, ca, rfl, hxa⟩ := ha
  simp only [strCells_len] at hxa ⊢
  have HXA := Lib.hid hxa; clear hxa
  go_enter Try.func6, Try.ntmps6
  go_wp2_with fail
  refine (shown3_any w).mono ?_
  rintro e w1 ⟨rfl, hb1⟩
  go_wp2
  go_loopw [6, 7, 8] (fun s d i wr => ∃ k : Nat, i = .int .i64 k ∧ s = .string (B (joins (ws.take k))) ∧ d = .int .u32 (C.upd c (joins (ws.take k)) : Nat) ∧ k ≤ ws.length ∧ (joins (ws.take k)).length ≤ k * 300 ∧ Below w.heap.size w wr) (fun _ _ i _ => ws.length - (intOf i).toNat)
  case atStart => exact ⟨0, rfl, by simp [joins, B], by rw [show joins (ws.take 0) = [] by simp [joins], C.upd_nil], by omega, by simp [joins], hb1⟩
  case round =>
    clear hb1
    obtain ⟨k, rfl, rfl, rfl, hkl, hjl, hbw⟩ := hrel
    have hup : C.upd c (joins (ws.take k)) < 4294967296 := C.upd_lt hc _
    by_cases hlt : k < ws.length
    · obtain ⟨b1, o1, rfl, hc1⟩ := HXA.out k hlt
      have hcw : w.cell? ⟨b1, o1 + k, none⟩ = some (.string (B ws[k])) := by rw [hc1]; simp [strCells, hlt]
      have hcell : wr.cell? ⟨b1, o1 + k, none⟩ = some (.string (B ws[k])) := by rw [hbw.cell (World.block_lt_of_cell? w _ hcw)]; exact hcw
      have hi1 : (k : Int) < (ws.length : Int) := by omega
      have HS := Lib.hid (joins_step hlt)
      clear hc1 hcw
      generalize ws[k] = x at *
      by_cases hx : x.length ≤ 300
      · have HA := Lib.hid (C.upd_append c (joins (ws.take k)) x)
        have HL := Lib.hid (show (joins (ws.take k) ++ x).length ≤ (k + 1) * 300 by rw [List.length_append]; omega)
        have hsum : (joins (ws.take k)).length + x.length ≤ 6300 := by omega
        clear hjl
        generalize C.upd c (joins (ws.take k)) = d at *
        generalize joins (ws.take k) = j at *
        go_wp2_with fail
        refine (chain (Update_l d x _ hup (by omega)) hbw).mono ?_
        rintro e w2 ⟨rfl, hb2⟩
        generalize C.upd d x = dd at *
        go_wp2
        go_roundw
        case rel => exact ⟨k + 1, by go_num, by rw [HS.out], by rw [HS.out, HA.out], by omega, by rw [HS.out]; exact HL.out, hb2⟩
        case measure => simp [intOf]; omega
      · go_wp2
        go_ret
        exact ⟨rfl, hbw⟩
    · have hj : (joins (ws.take k)).length ≤ 6000 := by omega
      generalize joins (ws.take k) = j at *
      go_wp2_with fail
      refine (chain (Update_l c j _ hc (by omega)) hbw).mono ?_
      rintro e w2 ⟨rfl, hb2⟩
      generalize C.upd c j = d at *
      go_wp2_with fail
      refine (chain (Update_l 0 j _ (by omega) (by omega)) hb2).mono ?_
      rintro e w3 ⟨rfl, hb3⟩
      go_wp2_with fail
      refine (chain (Sum_l j _ (by omega)) hb3).mono ?_
      rintro e w4 ⟨rfl, hb4⟩
      generalize C.upd 0 j = y at *
      go_wp2
      go_ret
      exact ⟨rfl, hb4⟩

theorem crcSplits_walk (z : Int) (hz : (Lit.int .u32 z).wf = true) (ws : List (List UInt8)) (va : Value) (w : World) (ha : Reads w va (strCells ws)) :
    Calls Try.prog 6 #[.int .u32 z, va] w fun e w' => e = .returned (.bool true) ∧ Below w.heap.size w w' := by
  obtain ⟨c, rfl, hc⟩ := u32_nat hz
  by_cases h : 20 < ws.length
  · exact crcSplits_big c ws va w ha h
  · exact crcSplits_small c ws va w hc ha (by omega)

set_option maxRecDepth 100000 in
theorem crcSplits_lifted (os : Os) (started : os.Started) (H : Type) (enc : TypeId × Value → H) :
    ReturnsInHanded {} Try.checked os 6 .any (Rows.crcSplitsSpec.pre6 enc Try.prog Try.f6 Rows.crcSplitsRow.domain false) (Rows.crcSplitsSpec.post enc Try.prog Try.f6 false true false false) := by
  refine returnsInHanded_of_change (C := Try.checked) crcSplits_own started (by kernel_rfl) Try.func6
    (ChangeSpec.witness6 (enc := enc) (C := Try.checked) false ⟨#[], #[.int .u32 0, .slice none 0 0], []⟩ 8 (by kernel_rfl) (by kernel_rfl) (by kernel_rfl) (by kernel_rfl)) ?_
  intro W base args ds gs before hval0 hW _ _
  have hval : ∀ (j : Nat) t v, Try.f6.params[j]? = some t → args[j]? = some v → Value.okWide Try.prog W .any base t v := hval0
  have hW' := hW
  obtain ⟨p, q, hA0, hV, rfl, hfz, hnd⟩ := hW
  have hA : DataW.TrodAll enc Try.prog W 0 (fun _ => true) true Try.f6.params.toList args.toList ds p := hA0
  rw [Try.params6] at hA hval
  obtain ⟨v0, vs0, d0, ds0, p0, q0, hargs, rfl, rfl, h0, r0⟩ := trodAll_cons hA
  obtain ⟨v1, vs1, d1, ds1, p1, q1, rfl, rfl, rfl, h1, r1⟩ := trodAll_cons r0
  obtain ⟨rfl, rfl, rfl⟩ := trodAll_nil r1
  obtain rfl : args = #[v0, v1] := by cases args; simp_all
  obtain ⟨rfl, rfl⟩ := trodVars_none hV
  obtain ⟨a0, rfl, rfl, rfl, w0⟩ := open_int Try.underlying22 (hval 0 22 v0 rfl rfl) h0
  obtain ⟨a1, len1, cap1, rfl⟩ := okWide_slice Try.underlying30 (hval 1 30 v1 rfl rfl)
  have k1 := h1
  have lt1 : ∀ x ∈ p1, x.block < W.heap.size := by obtain ⟨m, hm⟩ := k1; exact DataW.trod_lt m _ _ _ hm
  obtain ⟨z1, w1⟩ : ∃ zs, Reads W (.slice a1 len1 cap1) (strCells zs) := by
    obtain ⟨fuel, hf⟩ := h1
    rcases open_strings Try.underlying30 Try.underlying9 (by kernel_rfl) hf with ⟨hcs, _⟩ | ⟨x, l, c, ss, hcs, _, hl, hm, hz, _, hcell, hwz⟩
    · simp [Value.cells] at hcs
      obtain ⟨rfl, rfl, rfl⟩ := hcs
      exact ⟨[], none, 0, rfl, fun i hi => by simp [strCells] at hi⟩
    · simp [Value.cells] at hcs
      obtain ⟨rfl, rfl, rfl⟩ := hcs
      exact ⟨_, reads_strings (by simp at hz; omega) hcell⟩
  clear hA0 hval0
  refine (crcSplits_walk a0 w0 z1 _ W w1).mono fun e W' ⟨he, bel⟩ => ?_
  subst he
  exact ⟨_, rfl, _, _, _, [], _, [], hW', trodAll_mk1 (shut_bool Try.underlying4 _), (trodAll_cons_mk (shut_int Try.underlying22 w0) (trodAll_cons_mk (Below.trod crcSplits_laid (by kernel_rfl) (of_decide_eq_true (by kernel_rfl)) k1 bel lt1) trodAll_mk0)), rfl, bel.frame _, fun h => by cases h⟩

theorem crcSplits_holds : Rows.CrcSplitsSaid :=
  OpenClaim.holds_of_wide 6 Try.f6 rfl rfl rfl rfl rfl rfl rfl ⟨rfl, rfl, rfl, rfl, rfl⟩ rfl rfl rfl rfl rfl (by kernel_rfl) Try.func6 (by kernel_rfl)
    (of_decide_eq_true (by kernel_rfl)) (by unfold Func.isWrapper; first | (rw [if_pos (by decide +kernel)]; kernel_rfl) | (rw [if_neg (by decide +kernel)]; exact ⟨rfl, rfl⟩))
    (fun os started H enc _ => crcSplits_lifted os started H enc)
#print axioms crcSplits_holds
end Go.Proofs.Ytikghphgoklkjaa
