/-
  Proved: for every text and every list of words the law TextWords of package bucketlinelaw1 returns true, and its arguments read as before: Words and Line of package text are the document's. No condition.
-/
import Derived.Test.YtnaabapahblhmaaR8
import Derived.ProofKit
import Derived.ShutString
namespace Go.Proofs.Ytnaabapahblhmaa
open Go.ChangeShapes Go.WideShapes Go.ChangeAt Go.RowKit
open Go.ChangeMaps (open_string shut_string)
attribute [local go_sem] ext_Bd ext_Bt toList_B add_B size_B

theorem textWords_own : ownKnob Try.prog.godebug = none := by kernel_rfl
theorem textWords_laid : laidOutB Try.prog = true := by kernel_rfl

theorem words_len2 {l : List UInt8} {A : List (List UInt8)} (h : wordsL l = some A) : A.length ≤ l.length := by
  have key : ∀ (n : Nat) (m : List UInt8) (A : List (List UInt8)), m.length ≤ n → T.gap m = 0 → wordsW m = some A → A.length ≤ m.length := by
    intro n
    induction n with
    | zero =>
      intro m A hl _ h
      have : m = [] := List.length_eq_zero_iff.1 (by omega)
      subst this
      simp [wordsW, wordsF] at h; subst h; simp
    | succ n ih =>
      intro m A hl hg h
      by_cases hne : m = []
      · subst hne; simp [wordsW, wordsF] at h; subst h; simp
      · cases hf : fwL m with
        | none => rw [wordsW_bad hne hf] at h; cases h
        | some p =>
          obtain ⟨w, k⟩ := p
          have hb := fw_bd hne hg hf
          rw [wordsW_cons hne hg hf, Option.map_eq_some_iff] at h
          obtain ⟨A', hA, rfl⟩ := h
          have hs := strip_len (m.drop k)
          have := ih (strip (m.drop k)) A' (by simp at hs; omega) (strip_gap _) hA
          simp at hs ⊢; omega
  have := key (strip l).length (strip l) A (Nat.le_refl _) (strip_gap l) h
  have := strip_len l
  omega

theorem words_len3 (l : List UInt8) : ((wordsL l).getD []).length ≤ l.length := by
  cases h : wordsL l with
  | none => simp
  | some A => simpa using words_len2 h

set_option maxHeartbeats 2000000 in
set_option maxRecDepth 100000 in
theorem textWords_small (l : List UInt8) (ws : List (List UInt8)) (va : Value) (w : World) (ha : Reads w va (strCells ws)) (hl : l.length ≤ 600) (hsm : smallB ws = true) :
    Calls Try.prog 5 #[.string (B l), va] w fun e w' => e = .returned (.bool true) ∧ Below w.heap.size w w' := by
  have hbd := small_bd hsm
  have HBD := Lib.hid hbd.2
  have h40 := hbd.1
  clear hbd
  have hwl := words_len3 l
  have HSM := Lib.hid hsm; clear hsm
  go_enter Try.func5, Try.ntmps5
  go_wp2_with fail
  with_reducible refine (shown_any w).mono ?_
  rintro e w1 ⟨rfl, hb1⟩
  have ha1 := reads_below ha hb1
  clear ha
  go_wp2_with fail
  with_reducible refine (small_l ws va w1 ha1).mono ?_
  rintro e w' ⟨rfl, rfl⟩
  rw [HSM.out]
  go_wp2_with fail
  with_reducible refine (Words_l l _ (by omega)).mono ?_
  rintro e w2 ⟨v2, rfl, ho2, hb2⟩
  generalize hca : (if (wordsL l).isSome = true then (0 : Int) else 2) = ca
  have HCA := Lib.hid hca; clear hca
  have hbb2 := hb1.trans (hb2.mono hb1.size)
  have ha2 := reads_below ha1 hb2
  clear hb1 hb2 ha1
  go_wp2_with fail
  with_reducible refine (refWords_l l _ (by omega)).mono ?_
  rintro e w3 ⟨v3, rfl, ho3, hb3⟩
  rw [HCA.out]
  have hbb3 := hbb2.trans (hb3.mono hbb2.size)
  have ha3 := reads_below ha2 hb3
  have ho4 := own_below ho2 hb3
  generalize (wordsL l).getD [] = A at *
  clear hbb2 hb3 ha2 ho2 HCA
  go_wp2_with fail
  refine (same_l A A _ _ _ (reads_own ho4) (reads_own ho3) (by omega)).mono ?_
  rintro e w6 ⟨rfl, hq⟩
  have hbb6 := below_quiet hbb3 hq
  have ha6 : Reads w6 va (strCells ws) := reads_cell ha3 fun p u hu => by obtain ⟨n, rfl⟩ := hq; exact hu
  rw [decide_eq_true (rfl : A = A)]
  clear hq ho3 ho4 ha3 hbb3
  go_wp2_with fail
  refine (Line_l ws va _ ha6 (by omega) (fun x hx => by have := HBD.out x hx; omega)).mono ?_
  rintro e w7 ⟨rfl, hb7⟩
  have hbb7 := hbb6.trans (hb7.mono hbb6.size)
  have ha7 := reads_below ha6 hb7
  clear hbb6 hb7 ha6
  go_wp2_with fail
  refine (refLine_l ws va _ ha7 (by omega) (fun x hx => by have := HBD.out x hx; omega)).mono ?_
  rintro e w8 ⟨rfl, hb8⟩
  have hbb8 := hbb7.trans (hb8.mono hbb7.size)
  clear hbb7 hb8 ha7
  go_wp2
  go_ret
  exact ⟨ret_bool (by simp), hbb8⟩

set_option maxHeartbeats 1000000 in
set_option maxRecDepth 100000 in
theorem textWords_big (l : List UInt8) (ws : List (List UInt8)) (va : Value) (w : World) (ha : Reads w va (strCells ws)) (h : smallB ws = false ∨ 600 < l.length) :
    Calls Try.prog 5 #[.string (B l), va] w fun e w' => e = .returned (.bool true) ∧ Below w.heap.size w w' := by
  cases hs : smallB ws
  · have HS := Lib.hid hs; clear hs h
    go_enter Try.func5, Try.ntmps5
    go_wp2_with fail
    with_reducible refine (shown_any w).mono ?_
    rintro e w1 ⟨rfl, hb1⟩
    have ha1 := reads_below ha hb1
    go_wp2_with fail
    with_reducible refine (small_l ws va w1 ha1).mono ?_
    rintro e w' ⟨rfl, rfl⟩
    rw [HS.out]
    go_wp2
    go_ret
    exact ⟨rfl, hb1⟩
  · have h6 : 600 < l.length := by rcases h with h | h; rw [hs] at h; cases h; exact h
    have HS := Lib.hid hs; clear hs h
    go_enter Try.func5, Try.ntmps5
    go_wp2_with fail
    with_reducible refine (shown_any w).mono ?_
    rintro e w1 ⟨rfl, hb1⟩
    have ha1 := reads_below ha hb1
    go_wp2_with fail
    with_reducible refine (small_l ws va w1 ha1).mono ?_
    rintro e w' ⟨rfl, rfl⟩
    rw [HS.out]
    go_wp2
    go_ret
    exact ⟨rfl, hb1⟩

theorem textWords_walk (a : ByteArray) (ws : List (List UInt8)) (va : Value) (w : World) (ha : Reads w va (strCells ws)) : Calls Try.prog 5 #[.string a, va] w fun e w' => e = .returned (.bool true) ∧ Below w.heap.size w w' := by
  rw [← B_L a]
  by_cases h : smallB ws = false ∨ 600 < (L a).length
  · exact textWords_big _ ws va w ha h
  · exact textWords_small _ ws va w ha (by omega) (by cases hs : smallB ws; exact absurd (.inl hs) h; rfl)

set_option maxRecDepth 100000 in
theorem textWords_lifted (os : Os) (started : os.Started) (H : Type) (enc : TypeId × Value → H) :
    ReturnsInHanded {} Try.checked os 5 .any (Rows.textWordsSpec.pre6 enc Try.prog Try.f5 Rows.textWordsRow.domain false) (Rows.textWordsSpec.post enc Try.prog Try.f5 false true false false) := by
  refine returnsInHanded_of_change (C := Try.checked) textWords_own started (by kernel_rfl) Try.func5
    (ChangeSpec.witness6 (enc := enc) (C := Try.checked) false ⟨#[], #[.string ByteArray.empty, .slice none 0 0], []⟩ 8 (by kernel_rfl) (by kernel_rfl) (by kernel_rfl) (by kernel_rfl)) ?_
  intro W base args ds gs before hval0 hW _ _
  have hval : ∀ (j : Nat) t v, Try.f5.params[j]? = some t → args[j]? = some v → Value.okWide Try.prog W .any base t v := hval0
  have hW' := hW
  obtain ⟨p, q, hA0, hV, rfl, hfz, hnd⟩ := hW
  have hA : DataW.TrodAll enc Try.prog W 0 (fun _ => true) true Try.f5.params.toList args.toList ds p := hA0
  rw [Try.params5] at hA hval
  obtain ⟨v0, vs0, d0, ds0, p0, q0, hargs, rfl, rfl, h0, r0⟩ := trodAll_cons hA
  obtain ⟨v1, vs1, d1, ds1, p1, q1, rfl, rfl, rfl, h1, r1⟩ := trodAll_cons r0
  obtain ⟨rfl, rfl, rfl⟩ := trodAll_nil r1
  obtain rfl : args = #[v0, v1] := by cases args; simp_all
  obtain ⟨rfl, rfl⟩ := trodVars_none hV
  obtain ⟨a0, rfl, rfl, rfl, w0⟩ := open_string Try.underlying9 (hval 0 9 v0 rfl rfl) h0
  obtain ⟨a1, len1, cap1, rfl⟩ := okWide_slice Try.underlying31 (hval 1 31 v1 rfl rfl)
  have k1 := h1
  have lt1 : ∀ x ∈ p1, x.block < W.heap.size := by obtain ⟨m, hm⟩ := k1; exact DataW.trod_lt m _ _ _ hm
  obtain ⟨z1, w1⟩ : ∃ zs, Reads W (.slice a1 len1 cap1) (strCells zs) := by
    obtain ⟨fuel, hf⟩ := h1
    rcases open_strings Try.underlying31 Try.underlying9 (by kernel_rfl) hf with ⟨hcs, _⟩ | ⟨x, l, c, ss, hcs, _, hl, hm, hz, _, hcell, hwz⟩
    · simp [Value.cells] at hcs
      obtain ⟨rfl, rfl, rfl⟩ := hcs
      exact ⟨[], none, 0, rfl, fun i hi => by simp [strCells] at hi⟩
    · simp [Value.cells] at hcs
      obtain ⟨rfl, rfl, rfl⟩ := hcs
      exact ⟨_, reads_strings (by simp at hz; omega) hcell⟩
  clear hA0 hval0
  refine (textWords_walk a0 z1 _ W w1).mono fun e W' ⟨he, bel⟩ => ?_
  subst he
  exact ⟨_, rfl, _, _, _, [], _, [], hW', trodAll_mk1 (shut_bool Try.underlying4 _), (trodAll_cons_mk (shut_string Try.underlying9 w0) (trodAll_cons_mk (Below.trod textWords_laid (by kernel_rfl) (of_decide_eq_true (by kernel_rfl)) k1 bel lt1) trodAll_mk0)), rfl, bel.frame _, fun h => by cases h⟩

theorem textWords_holds : Rows.TextWordsSaid :=
  OpenClaim.holds_of_wide 5 Try.f5 rfl rfl rfl rfl rfl rfl rfl ⟨rfl, rfl, rfl, rfl, rfl⟩ rfl rfl rfl rfl rfl (by kernel_rfl) Try.func5 (by kernel_rfl)
    (of_decide_eq_true (by kernel_rfl)) (by unfold Func.isWrapper; first | (rw [if_pos (by decide +kernel)]; kernel_rfl) | (rw [if_neg (by decide +kernel)]; exact ⟨rfl, rfl⟩))
    (fun os started H enc _ => textWords_lifted os started H enc)

#print axioms textWords_holds
end Go.Proofs.Ytnaabapahblhmaa
