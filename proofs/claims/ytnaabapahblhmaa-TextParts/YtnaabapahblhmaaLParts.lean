/-
  Proved: for every two texts the law TextParts of package bucketlinelaw1 returns true, and its arguments read as before: the runes of two texts, one behind the other, are those of both, if the first one ends with a rune below 128. No condition.
-/
import Derived.Test.YtnaabapahblhmaaW10
import Derived.Laws.AppendOwnNone
import Derived.ProofKit
import Derived.OpenShut
import Derived.ShutString
namespace Go.Proofs.Ytnaabapahblhmaa
open Go.ChangeShapes Go.WideShapes Go.ChangeAt Go.RowKit
open Go.ChangeMaps (open_string shut_string)
theorem add_bar (l : List UInt8) : B l ++ (⟨#[124]⟩ : ByteArray) = B (l ++ [124]) := add_B l [124]
attribute [local go_sem] ext_Bd ext_Bt toList_B add_B size_B add_bar

theorem textParts_own : ownKnob Try.prog.godebug = none := by kernel_rfl

theorem wides_step {l : List Int} {k : Nat} (h : k < l.length) : T.wides (l.take (k + 1)) = T.wides (l.take k) + if 128 ≤ l[k] then 1 else 0 := by
  rw [List.take_succ_eq_append_getElem h]
  unfold T.wides
  rw [List.filter_append]
  by_cases c : 128 ≤ l[k] <;> simp [c]
theorem wides_le (l : List Int) (k : Nat) : T.wides (l.take k) ≤ k := by
  unfold T.wides
  have h1 := List.length_filter_le (fun r => decide (128 ≤ r)) (l.take k)
  have h2 : (l.take k).length ≤ k := List.length_take_le _ _
  omega

theorem intCells_one (l : List Int) : ∀ u ∈ intCells l, u.oneCell' = true := by
  intro u hu
  simp only [intCells, List.mem_map] at hu
  obtain ⟨x, _, rfl⟩ := hu
  rfl

theorem intCells_app (a b : List Int) : intCells (a ++ b) = intCells a ++ intCells b := by simp [intCells]
theorem below_made {w w' : World} {o : Obj} {n c : Nat} (h : (w.alloc o).grownBy w' (Value.ownBlock (.slice (some ⟨w.heap.size, 0, none⟩) n c))) : Below w.heap.size w w' :=
  ((Below.refl _ w).alloc (Nat.le_refl _) o).grown h (by simp) (fun k hk => by simp [Value.ownBlock] at hk; omega)

set_option maxHeartbeats 1000000 in
set_option maxRecDepth 100000 in
theorem textParts_small (l m : List UInt8) (w : World) (hl : l.length ≤ 300) (hm : m.length ≤ 300) :
    Calls Try.prog 8 #[.string (B l), .string (B m)] w fun e w' => e = .returned (.bool true) ∧ Below w.heap.size w w' := by
  obtain ⟨i0, hi, hz0, hz1, hz2⟩ := info_parts Try.info3
  go_enter Try.func8, Try.ntmps8
  go_wp2_with fail
  refine (shown_any w).mono ?_
  rintro e w1 ⟨rfl, hb1⟩
  go_wp2_with fail
  refine (Runes_l (l ++ [124]) _ (by simp; omega)).mono ?_
  rintro e w2 ⟨va, rfl, hoa, hb2⟩
  have hbb2 := hb1.trans (hb2.mono hb1.size)
  clear hb2 hb1
  go_wp2_with fail
  refine (Runes_l m _ (by omega)).mono ?_
  rintro e w3 ⟨vb, rfl, hob, hb3⟩
  have hbb3 := hbb2.trans (hb3.mono hbb2.size)
  have hoa3 := own_below hoa hb3
  clear hb3 hbb2 hoa
  go_wp2_with fail
  refine (Runes_l (l ++ 124 :: m) _ (by simp; omega)).mono ?_
  rintro e w4 ⟨vc, rfl, hoc, hb4⟩
  have hbb4 := hbb3.trans (hb4.mono hbb3.size)
  have hoa4 := own_below hoa3 hb4
  have hob4 := own_below hob hb4
  clear hb4 hbb3 hoa3 hob
  have HC := Lib.hid (show T.nums (l ++ 124 :: m) = T.nums (l ++ [124]) ++ T.nums m by
    rw [T.nums_append l.length l (Nat.le_refl _) (by decide), T.nums_append l.length l (Nat.le_refl _) (by decide), T.nums_ascii (by decide), T.nums_ascii (by decide)]
    simp [T.nums_nil])
  have hwd := T.nums_wide (l ++ [124]).length (l ++ [124]) (Nat.le_refl _)
  have HBD := Lib.hid (T.nums_bd (l ++ [124]).length (l ++ [124]) (Nat.le_refl _))
  have hpos : 1 ≤ (T.nums (l ++ [124])).length := by
    rw [T.nums_append l.length l (Nat.le_refl _) (by decide), T.nums_ascii (by decide)]; simp; omega
  have hml := T.nums_len m
  simp only [List.length_append, List.length_cons, List.length_nil] at hwd
  generalize T.nums (l ++ [124]) = A at *
  generalize T.nums m = M at *
  generalize T.nums (l ++ 124 :: m) = C at *
  obtain ⟨g, cap, hva, hca⟩ : ∃ g cap, va = .slice (some ⟨g, 0, none⟩) A.length cap ∧ ∀ k (h : k < A.length), w4.cell? ⟨g, k, none⟩ = some (.int .i64 A[k]) := by
    rcases hoa4.2 with ⟨_, h0⟩ | ⟨g, cap, cur, rfl, _⟩
    · omega
    · refine ⟨g, cap, rfl, fun k hk => ?_⟩
      rw [hoa4.cellAt k (by omega)]
      simp [intCells, hk]
  subst hva
  have HCA := Lib.hid hca; clear hca
  go_wp2
  go_loop [9, 10] (fun x i => ∃ k : Nat, i = .int .i64 k ∧ k ≤ A.length ∧ x = .int .i64 (T.wides (A.take k))) (fun _ i => A.length - (intOf i).toNat)
  case atStart => exact ⟨0, rfl, Nat.zero_le _, rfl⟩
  case round =>
    obtain ⟨k, rfl, hk, rfl⟩ := hrel
    have hwl := wides_le A k
    by_cases hlt : k < A.length
    · have hcell := HCA.out k hlt
      have hbd := HBD.out A[k] (List.getElem_mem hlt)
      have HW := Lib.hid (wides_step hlt)
      have hi1 : (k : Int) < (A.length : Int) := by omega
      by_cases h128 : 128 ≤ A[k]
      · go_wp2
        go_round
        case rel => exact ⟨k + 1, by go_num, by omega, by rw [HW.out, if_pos h128]; go_num⟩
        case measure => simp [intOf]; omega
      · go_wp2
        go_round
        case rel => exact ⟨k + 1, by go_num, by omega, by rw [HW.out, if_neg h128]; go_num⟩
        case measure => simp [intOf]; omega
    · have HK := Lib.hid (show A.take k = A from List.take_of_length_le (by omega))
      rw [HK.out]
      have ho0 := World.ownsRow_lit (base := w4.heap.size) (e := 3) (size := 1) w4 #[] 0 (Nat.le_refl _) (by decide) rfl
      have hnA := (hoa4.alloc (.cells #[] 3)).cells (g := g) rfl
      have hle1 : A.length ≤ l.length + 1 := by omega
      have hdec : decide (C = A ++ M) = true := by simpa using HC.out
      rcases hob4.2 with ⟨rfl, hM0⟩ | ⟨g2, cap2, cur2, rfl, _⟩
      · have hM : M = [] := List.length_eq_zero_iff.1 hM0
        subst hM
        have HX := Lib.hid (show decide (C = A) = true by rw [List.append_nil] at hdec; exact hdec)
        clear hdec
        go_wp2_with (first
          | (at_builtin; refine wpList_append_own _ rfl (.tmp 61) (.tmp 62) 24 rfl w4.heap.size 3 i0 (.int .i64 0) 1 8 Try.underlying24 hi hz0 hz1 hz2 rfl (by decide) _ 0 [] rfl ho0 ⟨g, 0, none⟩ A.length cap (intCells A) rfl (by rw [intCells_len]; omega) hnA (intCells_one A) (by unfold maxLen; omega) (by omega) (by simp) ?_; intro v1 w5 ho5 hg5 _; have hb5 := below_made hg5; rw [Nat.zero_add, List.nil_append] at ho5)
          | (at_builtin; refine wpList_append_own_none rfl (.tmp 63) (.tmp 64) 24 rfl w4.heap.size 3 i0 1 Try.underlying24 hi _ A.length (intCells A) rfl ho5 rfl ?_)
          | (go_at_call 12; refine (sameInts_l C A _ _ _ (reads_below (reads_own hoc) hb5) (reads_own ho5) (by rw [HC.out]; simp; omega)).mono ?_; rintro e w7 ⟨rfl, hq7⟩; rw [HX.out]))
        go_ret
        exact ⟨ret_bool (by simp; omega), below_quiet (hbb4.trans (hb5.mono hbb4.size)) hq7⟩
      · have HX := Lib.hid hdec
        clear hdec
        go_wp2_with (first
          | (at_builtin; refine wpList_append_own _ rfl (.tmp 61) (.tmp 62) 24 rfl w4.heap.size 3 i0 (.int .i64 0) 1 8 Try.underlying24 hi hz0 hz1 hz2 rfl (by decide) _ 0 [] rfl ho0 ⟨g, 0, none⟩ A.length cap (intCells A) rfl (by rw [intCells_len]; omega) hnA (intCells_one A) (by unfold maxLen; omega) (by omega) (by simp) ?_; intro v1 w5 ho5 hg5 _; have hb5 := below_made hg5; rw [Nat.zero_add, List.nil_append] at ho5)
          | (at_builtin; refine wpList_append_own _ rfl (.tmp 63) (.tmp 64) 24 rfl w4.heap.size 3 i0 (.int .i64 0) 1 8 Try.underlying24 hi hz0 hz1 hz2 rfl (by decide) _ A.length (intCells A) rfl ho5 ⟨g2, 0, none⟩ M.length cap2 (intCells M) rfl (by rw [intCells_len]; omega) ((own_below hob4 hb5).cells (g := g2) rfl) (intCells_one M) (by unfold maxLen; omega) (by omega) hb5.size ?_; intro v2 w6 ho6 hg6 _)
          | (go_at_call 12; refine (sameInts_l C (A ++ M) _ _ _ (reads_below (reads_own hoc) (hb5.grown hg6 hb5.size (fun k hk => (ho5.lt k hk).1))) (by have h := reads_own ho6; rwa [← intCells_app] at h) (by rw [HC.out]; simp; omega)).mono ?_; rintro e w7 ⟨rfl, hq7⟩; rw [HX.out]))
        go_ret
        exact ⟨ret_bool (by simp; omega), below_quiet (hbb4.trans ((hb5.grown hg6 hb5.size (fun k hk => (ho5.lt k hk).1)).mono hbb4.size)) hq7⟩

set_option maxHeartbeats 1000000 in
set_option maxRecDepth 100000 in
theorem textParts_big (l m : List UInt8) (w : World) (h : 300 < l.length ∨ 300 < m.length) :
    Calls Try.prog 8 #[.string (B l), .string (B m)] w fun e w' => e = .returned (.bool true) ∧ Below w.heap.size w w' := by
  by_cases h1 : 300 < l.length
  · go_enter Try.func8, Try.ntmps8
    go_wp2_with (go_at_call 11; refine (shown_any w).mono ?_; rintro e w1 ⟨rfl, hb1⟩)
    go_ret
    exact ⟨rfl, hb1⟩
  · have h2 : 300 < m.length := by omega
    go_enter Try.func8, Try.ntmps8
    go_wp2_with (go_at_call 11; refine (shown_any w).mono ?_; rintro e w1 ⟨rfl, hb1⟩)
    go_ret
    exact ⟨rfl, hb1⟩

theorem textParts_walk (a b : ByteArray) (w : World) : Calls Try.prog 8 #[.string a, .string b] w fun e w' => e = .returned (.bool true) ∧ Below w.heap.size w w' := by
  rw [← B_L a, ← B_L b]
  by_cases h : 300 < (L a).length ∨ 300 < (L b).length
  · exact textParts_big _ _ w h
  · exact textParts_small _ _ w (by omega) (by omega)

set_option maxRecDepth 100000 in
theorem textParts_lifted (os : Os) (started : os.Started) (H : Type) (enc : TypeId × Value → H) :
    ReturnsInHanded {} Try.checked os 8 .any (Rows.textPartsSpec.pre6 enc Try.prog Try.f8 Rows.textPartsRow.domain false) (Rows.textPartsSpec.post enc Try.prog Try.f8 false true false false) := by
  refine returnsInHanded_of_change (C := Try.checked) textParts_own started (by kernel_rfl) Try.func8
    (ChangeSpec.witness6 (enc := enc) (C := Try.checked) false ⟨#[], #[.string ByteArray.empty, .string ByteArray.empty], []⟩ 8 (by kernel_rfl) (by kernel_rfl) (by kernel_rfl) (by kernel_rfl)) ?_
  intro W base args ds gs before hval0 hW _ _
  have hval : ∀ (j : Nat) t v, Try.f8.params[j]? = some t → args[j]? = some v → Value.okWide Try.prog W .any base t v := hval0
  have hW' := hW
  obtain ⟨p, q, hA0, hV, rfl, hfz, hnd⟩ := hW
  have hA : DataW.TrodAll enc Try.prog W 0 (fun _ => true) true Try.f8.params.toList args.toList ds p := hA0
  rw [Try.params8] at hA hval
  obtain ⟨v0, vs0, d0, ds0, p0, q0, hargs, rfl, rfl, h0, r0⟩ := trodAll_cons hA
  obtain ⟨v1, vs1, d1, ds1, p1, q1, rfl, rfl, rfl, h1, r1⟩ := trodAll_cons r0
  obtain ⟨rfl, rfl, rfl⟩ := trodAll_nil r1
  obtain rfl : args = #[v0, v1] := by cases args; simp_all
  obtain ⟨rfl, rfl⟩ := trodVars_none hV
  obtain ⟨a0, rfl, rfl, rfl, w0⟩ := open_string Try.underlying9 (hval 0 9 v0 rfl rfl) h0
  obtain ⟨a1, rfl, rfl, rfl, w1⟩ := open_string Try.underlying9 (hval 1 9 v1 rfl rfl) h1
  clear hA0 hval0
  simp only [List.append_nil] at hW'
  refine (textParts_walk a0 a1 W).mono fun e W' ⟨he, bel⟩ => ?_
  subst he
  exact ⟨_, rfl, _, _, _, [], [], [], hW', trodAll_mk1 (shut_bool Try.underlying4 _), (trodAll_cons_mk (shut_string Try.underlying9 w0) (trodAll_cons_mk (shut_string Try.underlying9 w1) trodAll_mk0)), rfl, bel.frame _, fun h => by cases h⟩

theorem textParts_holds : Rows.TextPartsSaid :=
  OpenClaim.holds_of_wide 8 Try.f8 rfl rfl rfl rfl rfl rfl rfl ⟨rfl, rfl, rfl, rfl, rfl⟩ rfl rfl rfl rfl rfl (by kernel_rfl) Try.func8 (by kernel_rfl)
    (of_decide_eq_true (by kernel_rfl)) (by unfold Func.isWrapper; first | (rw [if_pos (by decide +kernel)]; kernel_rfl) | (rw [if_neg (by decide +kernel)]; exact ⟨rfl, rfl⟩))
    (fun os started H enc _ => textParts_lifted os started H enc)
#print axioms textParts_holds
end Go.Proofs.Ytnaabapahblhmaa
