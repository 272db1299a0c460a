/-
  Proved: for every text and every list of words the law TextBack of package bucketlinelaw1 returns true, and its arguments read as before: what is quoted is unquoted as it was, and is of bytes from 32 on; the words of a line that was made of words are these. No condition.
-/
import Derived.Test.YtnaabapahblhmaaW12
import Derived.ProofKit
import Derived.ShutString
namespace Go.Proofs.Ytnaabapahblhmaa
open Go.ChangeShapes Go.WideShapes Go.ChangeAt Go.RowKit
open Go.ChangeMaps (open_string shut_string)
theorem get_Bq (m : List UInt8) (n : Nat) (h : n < (B m).size) : ((B m)[n]'h).toNat = T.bt m n := by rw [get_B]; rfl
attribute [local go_sem] ext_Bd ext_Bt toList_B add_B size_B get_Bq

theorem textBack_own : ownKnob Try.prog.godebug = none := by kernel_rfl
theorem textBack_laid : laidOutB Try.prog = true := by kernel_rfl

theorem flat_len (r : List (List UInt8)) (h : ∀ x ∈ r, x.length ≤ 300) : (r.flatMap fun x => 32 :: wordQ x).length ≤ r.length * 1203 := by
  induction r with
  | nil => simp
  | cons x r ih =>
    have h1 := wordQ_len x
    have h2 := h x (by simp)
    have h3 := ih (fun y hy => h y (by simp [hy]))
    simp only [List.flatMap_cons, List.length_append, List.length_cons] at h3 ⊢
    omega
theorem line_len {ws : List (List UInt8)} (h40 : ws.length ≤ 40) (h : ∀ x ∈ ws, x.length ≤ 300) : (lineF ws).length ≤ 60000 := by
  match ws with
  | [] => simp [lineF]
  | w :: r =>
    have h1 := wordQ_len w
    have h2 := h w (by simp)
    have h3 := flat_len r (fun y hy => h y (by simp [hy]))
    simp only [lineF, List.length_append, List.length_cons] at h40 ⊢
    omega
theorem bt_mem {l : List UInt8} {k : Nat} (h : k < l.length) : ∃ c ∈ l, T.bt l k = c.toNat :=
  ⟨l[k], List.getElem_mem h, by simp [T.bt, List.getD_eq_getElem?_getD, h]⟩

set_option maxHeartbeats 2000000 in
set_option maxRecDepth 100000 in
theorem textBack_small (l : List UInt8) (ws : List (List UInt8)) (va : Value) (w : World) (ha : Reads w va (strCells ws)) (hl : l.length ≤ 600) (hsm : smallB ws = true) :
    Calls Try.prog 6 #[.string (B l), va] w fun e w' => e = .returned (.bool true) ∧ Below w.heap.size w w' := by
  have hbd := small_bd hsm
  have hll := line_len hbd.1 hbd.2
  have HBD := Lib.hid hbd.2
  have h40 := hbd.1
  clear hbd
  have hql := T.quoteL_len l
  have HSM := Lib.hid hsm; clear hsm
  go_enter Try.func6, Try.ntmps6
  go_wp2_with fail
  with_reducible refine (shown_any w).mono ?_
  rintro e w1 ⟨rfl, hb1⟩
  have ha1 := reads_below ha hb1
  clear ha
  go_wp2_with fail
  with_reducible refine (small_l ws va w1 ha1).mono ?_
  rintro e w' ⟨rfl, rfl⟩
  rw [HSM.out]
  go_wp2_with fail
  with_reducible refine (Quote_l l _ (by omega)).mono ?_
  rintro e w2 ⟨rfl, hb2⟩
  have hbb2 := hb1.trans (hb2.mono hb1.size)
  have ha2 := reads_below ha1 hb2
  clear hb1 hb2 ha1
  go_wp2_with fail
  with_reducible refine (Unquote_l (T.quoteL l) _ (by omega)).mono ?_
  rintro e w3 ⟨rfl, hb3⟩
  have hbb3 := hbb2.trans (hb3.mono hbb2.size)
  have ha3 := reads_below ha2 hb3
  rw [unq_quote, unqRes_some]
  clear hbb2 hb3 ha2
  go_wp2_with fail
  with_reducible refine (Line_l ws va _ ha3 (by omega) (fun x hx => by have := HBD.out x hx; omega)).mono ?_
  rintro e w4 ⟨rfl, hb4⟩
  have hbb4 := hbb3.trans (hb4.mono hbb3.size)
  have ha4 := reads_below ha3 hb4
  clear hbb3 hb4 ha3
  go_wp2_with fail
  with_reducible refine (Words_l (lineF ws) _ (by omega)).mono ?_
  rintro e w5 ⟨v5, rfl, ho5, hb5⟩
  rw [words_line] at ho5 ⊢
  simp only [Option.getD_some, Option.isSome_some, if_true] at ho5 ⊢
  have hbb5 := hbb4.trans (hb5.mono hbb4.size)
  have ha5 := reads_below ha4 hb5
  clear hbb4 hb5 ha4
  have HQS := Lib.hid (quote_shown l)
  generalize T.quoteL l = q at *
  go_wp2
  go_loop [12] (fun i => ∃ k : Nat, i = .int .i64 k ∧ k ≤ q.length) (fun i => q.length - (intOf i).toNat)
  case atStart => exact ⟨0, rfl, by omega⟩
  case round =>
    obtain ⟨k, rfl, hk⟩ := hrel
    by_cases hlt : k < q.length
    · obtain ⟨c, hc, hbt⟩ := bt_mem hlt
      have hs := HQS.out c hc
      unfold shownB at hs
      rw [← hbt] at hs
      have hb32 : 32 ≤ T.bt q k := hs.1
      have h127 : ((T.bt q k : Int) == 127) = false := by have := hs.2; simp; omega
      clear hs hbt hc
      go_wp2
      go_round
      case rel => first | exact ⟨k + 1, by go_num, by omega⟩ | ((repeat apply Exists.intro); exact ⟨⟨k + 1, by go_num, by omega⟩, rfl⟩)
      case measure => simp [intOf]; omega
    · go_wp2_with fail
      refine (same_l ws ws _ _ _ (reads_own ho5) ha5 (by omega)).mono ?_
      rintro e w6 ⟨rfl, hq⟩
      have hbb6 := below_quiet hbb5 hq
      rw [decide_eq_true (rfl : ws = ws)]
      clear hq ho5 ha5 hbb5
      go_wp2
      go_ret
      exact ⟨rfl, hbb6⟩

set_option maxHeartbeats 1000000 in
set_option maxRecDepth 100000 in
theorem textBack_big (l : List UInt8) (ws : List (List UInt8)) (va : Value) (w : World) (ha : Reads w va (strCells ws)) (h : smallB ws = false ∨ 600 < l.length) :
    Calls Try.prog 6 #[.string (B l), va] w fun e w' => e = .returned (.bool true) ∧ Below w.heap.size w w' := by
  cases hs : smallB ws
  · have HS := Lib.hid hs; clear hs h
    go_enter Try.func6, Try.ntmps6
    go_wp2_with fail
    with_reducible refine (shown_any w).mono ?_
    rintro e w1 ⟨rfl, hb1⟩
    have ha1 := reads_below ha hb1
    go_wp2_with fail
    with_reducible refine (small_l ws va w1 ha1).mono ?_
    rintro e w' ⟨rfl, rfl⟩
    rw [HS.out]
    go_wp2
    go_ret
    exact ⟨rfl, hb1⟩
  · have h6 : 600 < l.length := by rcases h with h | h; rw [hs] at h; cases h; exact h
    have HS := Lib.hid hs; clear hs h
    go_enter Try.func6, Try.ntmps6
    go_wp2_with fail
    with_reducible refine (shown_any w).mono ?_
    rintro e w1 ⟨rfl, hb1⟩
    have ha1 := reads_below ha hb1
    go_wp2_with fail
    with_reducible refine (small_l ws va w1 ha1).mono ?_
    rintro e w' ⟨rfl, rfl⟩
    rw [HS.out]
    go_wp2
    go_ret
    exact ⟨rfl, hb1⟩

theorem textBack_walk (a : ByteArray) (ws : List (List UInt8)) (va : Value) (w : World) (ha : Reads w va (strCells ws)) : Calls Try.prog 6 #[.string a, va] w fun e w' => e = .returned (.bool true) ∧ Below w.heap.size w w' := by
  rw [← B_L a]
  by_cases h : smallB ws = false ∨ 600 < (L a).length
  · exact textBack_big _ ws va w ha h
  · exact textBack_small _ ws va w ha (by omega) (by cases hs : smallB ws; exact absurd (.inl hs) h; rfl)

set_option maxRecDepth 100000 in
theorem textBack_lifted (os : Os) (started : os.Started) (H : Type) (enc : TypeId × Value → H) :
    ReturnsInHanded {} Try.checked os 6 .any (Rows.textBackSpec.pre6 enc Try.prog Try.f6 Rows.textBackRow.domain false) (Rows.textBackSpec.post enc Try.prog Try.f6 false true false false) := by
  refine returnsInHanded_of_change (C := Try.checked) textBack_own started (by kernel_rfl) Try.func6
    (ChangeSpec.witness6 (enc := enc) (C := Try.checked) false ⟨#[], #[.string ByteArray.empty, .slice none 0 0], []⟩ 8 (by kernel_rfl) (by kernel_rfl) (by kernel_rfl) (by kernel_rfl)) ?_
  intro W base args ds gs before hval0 hW _ _
  have hval : ∀ (j : Nat) t v, Try.f6.params[j]? = some t → args[j]? = some v → Value.okWide Try.prog W .any base t v := hval0
  have hW' := hW
  obtain ⟨p, q, hA0, hV, rfl, hfz, hnd⟩ := hW
  have hA : DataW.TrodAll enc Try.prog W 0 (fun _ => true) true Try.f6.params.toList args.toList ds p := hA0
  rw [Try.params6] at hA hval
  obtain ⟨v0, vs0, d0, ds0, p0, q0, hargs, rfl, rfl, h0, r0⟩ := trodAll_cons hA
  obtain ⟨v1, vs1, d1, ds1, p1, q1, rfl, rfl, rfl, h1, r1⟩ := trodAll_cons r0
  obtain ⟨rfl, rfl, rfl⟩ := trodAll_nil r1
  obtain rfl : args = #[v0, v1] := by cases args; simp_all
  obtain ⟨rfl, rfl⟩ := trodVars_none hV
  obtain ⟨a0, rfl, rfl, rfl, w0⟩ := open_string Try.underlying9 (hval 0 9 v0 rfl rfl) h0
  obtain ⟨a1, len1, cap1, rfl⟩ := okWide_slice Try.underlying31 (hval 1 31 v1 rfl rfl)
  have k1 := h1
  have lt1 : ∀ x ∈ p1, x.block < W.heap.size := by obtain ⟨m, hm⟩ := k1; exact DataW.trod_lt m _ _ _ hm
  obtain ⟨z1, w1⟩ : ∃ zs, Reads W (.slice a1 len1 cap1) (strCells zs) := by
    obtain ⟨fuel, hf⟩ := h1
    rcases open_strings Try.underlying31 Try.underlying9 (by kernel_rfl) hf with ⟨hcs, _⟩ | ⟨x, l, c, ss, hcs, _, hl, hm, hz, _, hcell, hwz⟩
    · simp [Value.cells] at hcs
      obtain ⟨rfl, rfl, rfl⟩ := hcs
      exact ⟨[], none, 0, rfl, fun i hi => by simp [strCells] at hi⟩
    · simp [Value.cells] at hcs
      obtain ⟨rfl, rfl, rfl⟩ := hcs
      exact ⟨_, reads_strings (by simp at hz; omega) hcell⟩
  clear hA0 hval0
  refine (textBack_walk a0 z1 _ W w1).mono fun e W' ⟨he, bel⟩ => ?_
  subst he
  exact ⟨_, rfl, _, _, _, [], _, [], hW', trodAll_mk1 (shut_bool Try.underlying4 _), (trodAll_cons_mk (shut_string Try.underlying9 w0) (trodAll_cons_mk (Below.trod textBack_laid (by kernel_rfl) (of_decide_eq_true (by kernel_rfl)) k1 bel lt1) trodAll_mk0)), rfl, bel.frame _, fun h => by cases h⟩

theorem textBack_holds : Rows.TextBackSaid :=
  OpenClaim.holds_of_wide 6 Try.f6 rfl rfl rfl rfl rfl rfl rfl ⟨rfl, rfl, rfl, rfl, rfl⟩ rfl rfl rfl rfl rfl (by kernel_rfl) Try.func6 (by kernel_rfl)
    (of_decide_eq_true (by kernel_rfl)) (by unfold Func.isWrapper; first | (rw [if_pos (by decide +kernel)]; kernel_rfl) | (rw [if_neg (by decide +kernel)]; exact ⟨rfl, rfl⟩))
    (fun os started H enc _ => textBack_lifted os started H enc)
#print axioms textBack_holds
end Go.Proofs.Ytnaabapahblhmaa
