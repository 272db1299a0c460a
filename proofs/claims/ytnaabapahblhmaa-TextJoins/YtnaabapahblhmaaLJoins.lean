/-
  Proved: for every two texts the law TextJoins of package bucketlinelaw1 returns true, and its arguments read as before: two lines with a blank between have the words of both; a name is a word that stands for itself. No condition.
-/
import Derived.Test.YtnaabapahblhmaaM1
import Derived.Deep.DeepCutAuto
import Derived.Laws.AppendOwnNone
import Derived.ProofKit
import Derived.OpenShut
import Derived.ShutString
namespace Go.Proofs.Ytnaabapahblhmaa
open Go.ChangeShapes Go.WideShapes Go.ChangeAt Go.RowKit
open Go.ChangeMaps (open_string shut_string)
theorem add_sp (l : List UInt8) : B l ++ (⟨#[32]⟩ : ByteArray) = B (l ++ [32]) := add_B l [32]
attribute [local go_sem] ext_Bd ext_Bt toList_B add_B size_B add_sp

theorem textJoins_own : ownKnob Try.prog.godebug = none := by kernel_rfl

theorem wpList_append_own_g {P : Program} {w : World} {ops : Array Oper} {rest : List Oper} {o : Oper} {a : Act} {Q : Exit → Act → World → Prop} (hgd : Region.wanted o (yielded ops a.tmps) = true) (s x : Operand) (t : TypeId)
    (ho : o.op = .call { callee := .builtin .append, args := #[s, x], argTypes := #[t, t] })
    (base : Nat) (e : TypeId) (i : TypeInfo) (z : Value) (size bytes : Nat) (ht : P.underlying t = some (.slice e)) (hi : P.info? e = some i) (hz : i.zero = some z)
    (hsize : i.size = size) (hby : i.bytes = bytes) (hzs : z.cells.size = size) (hsz : 0 < size)
    (v : Value) (n : Nat) (xs : List Value) (hs : a.eval s = v) (hown : w.ownsRow base e size v n xs)
    (ad : Addr) (m c : Nat) (news : List Value) (hx : a.eval x = .slice (some ad) m c) (hl : news.length = m * size) (hnews : ∀ j u, news[j]? = some u → w.cell? (ad.add j) = some u) (h1 : ∀ u ∈ news, u.oneCell' = true)
    (h63 : n + m ≤ maxLen) (hbytes : (n + m) * bytes ≤ 140737488355328) (hbase : base ≤ w.heap.size)
    (h : ∀ v' w', w'.ownsRow base e size v' (n + m) (xs ++ news) → w.grownBy w' v.ownBlock → (v' = .slice none 0 0 ↔ v = .slice none 0 0 ∧ m = 0) → wpList P ops Q rest (a.put o.dst v') w') : wpList P ops Q (o :: rest) a w :=
  wpList_step fun _ hK => by
    rw [if_pos hgd]
    exact wp_append_own w s x t ho base e i z size bytes ht hi hz hsize hby hzs hsz v n xs hs hown ad m c news hx hl hnews h1 h63 hbytes hbase fun v' w' h2 h3 h4 => hK _ _ (h v' w' h2 h3 h4)
theorem wpList_append_none_g {P : Program} {w : World} {ops : Array Oper} {rest : List Oper} {o : Oper} {a : Act} {Q : Exit → Act → World → Prop} (hgd : Region.wanted o (yielded ops a.tmps) = true) (s x : Operand) (t : TypeId)
    (ho : o.op = .call { callee := .builtin .append, args := #[s, x], argTypes := #[t, t] })
    (base : Nat) (e : TypeId) (i : TypeInfo) (size : Nat) (ht : P.underlying t = some (.slice e)) (hi : P.info? e = some i)
    (v : Value) (n : Nat) (xs : List Value) (hs : a.eval s = v) (hown : w.ownsRow base e size v n xs) (hx : a.eval x = .slice none 0 0)
    (h : wpList P ops Q rest (a.put o.dst v) w) : wpList P ops Q (o :: rest) a w := by
  refine wpList_step fun K hK => ?_
  rw [if_pos hgd]
  have hrun := run_append_owned_none (P := P) (w := w) base t o.type e i size ht hi v n xs hown
  unfold Oper.wp
  simp [execOp, ho, resolve, invoke, builtin, hs, hx, hrun, Result.andThen]
  exact hK _ _ h

theorem strCells_one (l : List (List UInt8)) : ∀ u ∈ strCells l, u.oneCell' = true := by
  intro u hu
  simp only [strCells, List.mem_map] at hu
  obtain ⟨x, _, rfl⟩ := hu
  rfl
theorem strCells_app (a b : List (List UInt8)) : strCells (a ++ b) = strCells a ++ strCells b := by simp [strCells]
theorem below_made9 {w w' : World} {o : Obj} {n c : Nat} (h : (w.alloc o).grownBy w' (Value.ownBlock (.slice (some ⟨w.heap.size, 0, none⟩) n c))) : Below w.heap.size w w' :=
  ((Below.refl _ w).alloc (Nat.le_refl _) o).grown h (by simp) (fun k hk => by simp [Value.ownBlock] at hk; omega)
theorem words_len {l : List UInt8} {A : List (List UInt8)} (h : wordsL l = some A) : A.length ≤ l.length := by
  have key : ∀ (n : Nat) (m : List UInt8) (A : List (List UInt8)), m.length ≤ n → T.gap m = 0 → wordsW m = some A → A.length ≤ m.length := by
    intro n
    induction n with
    | zero =>
      intro m A hl _ h
      have : m = [] := List.length_eq_zero_iff.1 (by omega)
      subst this
      simp [wordsW, wordsF] at h; subst h; simp
    | succ n ih =>
      intro m A hl hg h
      by_cases hne : m = []
      · subst hne; simp [wordsW, wordsF] at h; subst h; simp
      · cases hf : fwL m with
        | none => rw [wordsW_bad hne hf] at h; cases h
        | some p =>
          obtain ⟨w, k⟩ := p
          have hb := fw_bd hne hg hf
          rw [wordsW_cons hne hg hf, Option.map_eq_some_iff] at h
          obtain ⟨A', hA, rfl⟩ := h
          have hs := strip_len (m.drop k)
          have := ih (strip (m.drop k)) A' (by simp at hs; omega) (strip_gap _) hA
          simp at hs ⊢; omega
  have := key (strip l).length (strip l) A (Nat.le_refl _) (strip_gap l) h
  have := strip_len l
  omega

set_option maxHeartbeats 2000000 in
set_option maxRecDepth 100000 in
theorem textJoins_small (l m : List UInt8) (w : World) (hl : l.length ≤ 400) (hm : m.length ≤ 400) :
    Calls Try.prog 7 #[.string (B l), .string (B m)] w fun e w' => e = .returned (.bool true) ∧ Below w.heap.size w w' := by
  obtain ⟨i0, hi, hz0, hz1, hz2⟩ := info_parts Try.info9
  go_enter Try.func7, Try.ntmps7
  go_wp2_with fail
  refine (shown_any w).mono ?_
  rintro e w1 ⟨rfl, hb1⟩
  go_wp2_with fail
  refine (Words_l l _ (by omega)).mono ?_
  rintro e w2 ⟨va, rfl, hoa, hb2⟩
  generalize hca : (if (wordsL l).isSome = true then (0 : Int) else 2) = ca
  have HCa := Lib.hid hca; clear hca
  have hbb2 := hb1.trans (hb2.mono hb1.size)
  clear hb1 hb2
  go_wp2_with fail
  refine (Words_l m _ (by omega)).mono ?_
  rintro e w3 ⟨vb, rfl, hob, hb3⟩
  generalize hcb : (if (wordsL m).isSome = true then (0 : Int) else 2) = cb
  have HCb := Lib.hid hcb; clear hcb
  have hbb3 := hbb2.trans (hb3.mono hbb2.size)
  have hoa3 := own_below hoa hb3
  clear hbb2 hb3 hoa
  go_wp2_with fail
  refine (Words_l (l ++ 32 :: m) _ (by simp; omega)).mono ?_
  rintro e w4 ⟨vc, rfl, hoc, hb4⟩
  generalize hcc : (if (wordsL (l ++ 32 :: m)).isSome = true then (0 : Int) else 2) = cc
  have HCc := Lib.hid hcc; clear hcc
  have hbb4 := hbb3.trans (hb4.mono hbb3.size)
  have hoa4 := own_below hoa3 hb4
  have hob4 := own_below hob hb4
  clear hbb3 hb4 hoa3 hob
  go_upto_region 7 with (fail)
  go_cut [65] (fun s wx => s = .bool false ∧ Below w.heap.size w wx)
  case first =>
    cases hA : wordsL l with
    | none =>
      obtain rfl : ca = 2 := by rw [← HCa.out, hA]; rfl
      clear hA
      go_wp2
      go_meet
      exact ⟨rfl, hbb4⟩
    | some A =>
      cases hC : wordsL m with
      | none =>
        obtain rfl : ca = 0 := by rw [← HCa.out, hA]; rfl
        obtain rfl : cb = 2 := by rw [← HCb.out, hC]; rfl
        clear hA hC
        go_wp2
        go_meet
        exact ⟨rfl, hbb4⟩
      | some C =>
        have hJ := words_two hA hC
        have hAl := words_len hA
        have hCl := words_len hC
        rw [hA] at hoa4
        rw [hC] at hob4
        rw [hJ] at hoc
        obtain rfl : ca = 0 := by rw [← HCa.out, hA]; rfl
        obtain rfl : cb = 0 := by rw [← HCb.out, hC]; rfl
        obtain rfl : cc = 0 := by rw [← HCc.out, hJ]; rfl
        simp only [Option.getD_some] at hoa4 hob4 hoc
        clear hA hC hJ
        have ho0 := World.ownsRow_lit (base := w4.heap.size) (e := 9) (size := 1) w4 #[] 0 (Nat.le_refl _) (by decide) rfl
        rcases hoa4.2 with ⟨rfl, hA0⟩ | ⟨g1, cap1, cur1, rfl, _⟩
        · obtain rfl : A = [] := List.length_eq_zero_iff.1 hA0
          rw [List.nil_append] at hoc
          rcases hob4.2 with ⟨rfl, hC0⟩ | ⟨g2, cap2, cur2, rfl, _⟩
          · obtain rfl : C = [] := List.length_eq_zero_iff.1 hC0
            go_wp2_with (first
              | (at_builtin; refine wpList_append_none_g (by go_simp) (.tmp 57) (.tmp 58) 31 rfl w4.heap.size 9 i0 1 Try.underlying31 hi _ 0 [] rfl ho0 rfl ?_; have ho5 := ho0; have hb5 := (Below.refl w4.heap.size w4).alloc (Nat.le_refl _) (.cells #[] 9))
              | (at_builtin; refine wpList_append_none_g (by go_simp) (.tmp 59) (.tmp 60) 31 rfl w4.heap.size 9 i0 1 Try.underlying31 hi _ ([] : List (List UInt8)).length (strCells ([] : List (List UInt8))) rfl ho5 rfl ?_; have ho6 := ho5; have hb6 := hb5))
            refine (same_l [] [] _ _ _ (reads_below (reads_own hoc) hb6) (reads_own ho6) (by first | omega | (simp; done) | (simp; omega))).mono ?_
            rintro e w7 ⟨rfl, hq7⟩
            rw [decide_eq_true (rfl : ([] : List (List UInt8)) = [])]
            go_wp2
            go_meet
            exact ⟨rfl, below_quiet (hbb4.trans (hb6.mono hbb4.size)) hq7⟩
          · skip
            go_wp2_with (first
              | (at_builtin; refine wpList_append_none_g (by go_simp) (.tmp 57) (.tmp 58) 31 rfl w4.heap.size 9 i0 1 Try.underlying31 hi _ 0 [] rfl ho0 rfl ?_; have ho5 := ho0; have hb5 := (Below.refl w4.heap.size w4).alloc (Nat.le_refl _) (.cells #[] 9))
              | (at_builtin; refine wpList_append_own_g (by go_simp) (.tmp 59) (.tmp 60) 31 rfl w4.heap.size 9 i0 (.string ⟨#[]⟩) 1 16 Try.underlying31 hi hz0 hz1 hz2 rfl (by decide) _ ([] : List (List UInt8)).length (strCells ([] : List (List UInt8))) rfl ho5 ⟨g2, 0, none⟩ C.length cap2 (strCells C) rfl (by rw [strCells_len]; omega) ((own_below hob4 hb5).cells (g := g2) rfl) (strCells_one C) (by unfold maxLen; omega) (by omega) hb5.size ?_; intro v2 w6 ho6 hg6 _; have hb6 := hb5.grown hg6 hb5.size (fun k hk => (ho5.lt k hk).1)))
            refine (same_l C C _ _ _ (reads_below (reads_own hoc) hb6) (reads_own (xs := strCells C) ho6) (by omega)).mono ?_
            rintro e w7 ⟨rfl, hq7⟩
            rw [decide_eq_true (rfl : C = C)]
            go_wp2
            go_meet
            exact ⟨rfl, below_quiet (hbb4.trans (hb6.mono hbb4.size)) hq7⟩
        · rcases hob4.2 with ⟨rfl, hC0⟩ | ⟨g2, cap2, cur2, rfl, _⟩
          · obtain rfl : C = [] := List.length_eq_zero_iff.1 hC0
            rw [List.append_nil] at hoc
            go_wp2_with (first
              | (at_builtin; refine wpList_append_own_g (by go_simp) (.tmp 57) (.tmp 58) 31 rfl w4.heap.size 9 i0 (.string ⟨#[]⟩) 1 16 Try.underlying31 hi hz0 hz1 hz2 rfl (by decide) _ 0 [] rfl ho0 ⟨g1, 0, none⟩ A.length cap1 (strCells A) rfl (by rw [strCells_len]; omega) ((hoa4.alloc (.cells #[] 9)).cells (g := g1) rfl) (strCells_one A) (by unfold maxLen; omega) (by omega) (by simp) ?_; intro v1 w5 ho5 hg5 _; have hb5 := below_made9 hg5; rw [Nat.zero_add, List.nil_append] at ho5)
              | (at_builtin; refine wpList_append_none_g (by go_simp) (.tmp 59) (.tmp 60) 31 rfl w4.heap.size 9 i0 1 Try.underlying31 hi _ A.length (strCells A) rfl ho5 rfl ?_; have ho6 := ho5; have hb6 := hb5))
            refine (same_l A A _ _ _ (reads_below (reads_own hoc) hb6) (reads_own ho6) (by first | omega | (simp; done) | (simp; omega))).mono ?_
            rintro e w7 ⟨rfl, hq7⟩
            rw [decide_eq_true (rfl : A = A)]
            go_wp2
            go_meet
            exact ⟨rfl, below_quiet (hbb4.trans (hb6.mono hbb4.size)) hq7⟩
          · skip
            go_wp2_with (first
              | (at_builtin; refine wpList_append_own_g (by go_simp) (.tmp 57) (.tmp 58) 31 rfl w4.heap.size 9 i0 (.string ⟨#[]⟩) 1 16 Try.underlying31 hi hz0 hz1 hz2 rfl (by decide) _ 0 [] rfl ho0 ⟨g1, 0, none⟩ A.length cap1 (strCells A) rfl (by rw [strCells_len]; omega) ((hoa4.alloc (.cells #[] 9)).cells (g := g1) rfl) (strCells_one A) (by unfold maxLen; omega) (by omega) (by simp) ?_; intro v1 w5 ho5 hg5 _; have hb5 := below_made9 hg5; rw [Nat.zero_add, List.nil_append] at ho5)
              | (at_builtin; refine wpList_append_own_g (by go_simp) (.tmp 59) (.tmp 60) 31 rfl w4.heap.size 9 i0 (.string ⟨#[]⟩) 1 16 Try.underlying31 hi hz0 hz1 hz2 rfl (by decide) _ A.length (strCells A) rfl ho5 ⟨g2, 0, none⟩ C.length cap2 (strCells C) rfl (by rw [strCells_len]; omega) ((own_below hob4 hb5).cells (g := g2) rfl) (strCells_one C) (by unfold maxLen; omega) (by omega) hb5.size ?_; intro v2 w6 ho6 hg6 _; have hb6 := hb5.grown hg6 hb5.size (fun k hk => (ho5.lt k hk).1)))
            refine (same_l (A ++ C) (A ++ C) _ _ _ (reads_below (reads_own hoc) hb6) (by have h := reads_own ho6; rwa [← strCells_app] at h) (by simp; omega)).mono ?_
            rintro e w7 ⟨rfl, hq7⟩
            rw [decide_eq_true (rfl : (A ++ C) = (A ++ C))]
            go_wp2
            go_meet
            exact ⟨rfl, below_quiet (hbb4.trans (hb6.mono hbb4.size)) hq7⟩
  case rest =>
    obtain ⟨rfl, hbx⟩ := hcut
    go_wp2_with fail
    refine (Words_l l _ (by omega)).mono ?_
    rintro e w7 ⟨v7, rfl, ho7, hb7⟩
    generalize hc7 : (if (wordsL l).isSome = true then (0 : Int) else 2) = c7
    have HC7 := Lib.hid hc7; clear hc7 hoa4 hob4 hoc hbb4
    have hbb7 := hbx.trans (hb7.mono hbx.size)
    clear hb7 hbx
    go_wp2_with fail
    refine (Name_l l _ (by omega)).mono ?_
    rintro e w8 ⟨rfl, hb8⟩
    have hbb8 := hbb7.trans (hb8.mono hbb7.size)
    have ho8 := own_below ho7 hb8
    clear hbb7 hb8 ho7
    cases hn : nameL l
    · clear ho8
      go_wp2
      go_ret
      exact ⟨rfl, hbb8⟩
    · have hw := words_plain (name_plain hn)
      have hq : wordQ l = l := by simp [wordQ, name_plain hn]
      have hlf : lineF [l] = l := by simp [lineF, hq]
      rw [hw] at ho8
      obtain rfl : c7 = 0 := by rw [← HC7.out, hw]; rfl
      simp only [Option.getD_some] at ho8
      have HLF := Lib.hid hlf
      clear hn hw hq hlf
      go_wp2_with fail
      have ho9 := World.ownsRow_lit (base := w8.heap.size) (e := 9) (size := 1) w8 #[.string (B l)] 1 (Nat.le_refl _) (by decide) rfl
      have r1 : Reads (w8.alloc (.cells #[.string (B l)] 9)) v7 (strCells [l]) := reads_own (ho8.alloc _)
      have r2 : Reads (w8.alloc (.cells #[.string (B l)] 9)) (.slice (some ⟨w8.heap.size, 0, none⟩) 1 1) (strCells [l]) := reads_own ho9
      refine (same_l [l] [l] _ _ _ r1 r2 (by simp)).mono ?_
      rintro e w9 ⟨rfl, hq9⟩
      have hbb9 := below_quiet (hbb8.alloc hbb8.size _) hq9
      have r3 : Reads w9 v7 (strCells [l]) := reads_cell r1 fun p u hu => by obtain ⟨n, rfl⟩ := hq9; exact hu
      rw [decide_eq_true (rfl : [l] = [l])]
      clear hq9 r1 r2 ho9 ho8 hbb8
      go_wp2_with fail
      refine (Line_l [l] _ _ r3 (by simp) (by simp; omega)).mono ?_
      rintro e w10 ⟨rfl, hb10⟩
      have hbb10 := hbb9.trans (hb10.mono hbb9.size)
      rw [HLF.out]
      clear hbb9 hb10 r3
      go_wp2
      go_ret
      exact ⟨ret_bool (by simp), hbb10⟩

set_option maxHeartbeats 1000000 in
set_option maxRecDepth 100000 in
theorem textJoins_big (l m : List UInt8) (w : World) (h : 400 < l.length ∨ 400 < m.length) :
    Calls Try.prog 7 #[.string (B l), .string (B m)] w fun e w' => e = .returned (.bool true) ∧ Below w.heap.size w w' := by
  by_cases h1 : 400 < l.length
  · go_enter Try.func7, Try.ntmps7
    go_wp2_with (go_at_call 11; refine (shown_any w).mono ?_; rintro e w1 ⟨rfl, hb1⟩)
    go_ret
    exact ⟨rfl, hb1⟩
  · have h2 : 400 < m.length := by omega
    go_enter Try.func7, Try.ntmps7
    go_wp2_with (go_at_call 11; refine (shown_any w).mono ?_; rintro e w1 ⟨rfl, hb1⟩)
    go_ret
    exact ⟨rfl, hb1⟩

theorem textJoins_walk (a b : ByteArray) (w : World) : Calls Try.prog 7 #[.string a, .string b] w fun e w' => e = .returned (.bool true) ∧ Below w.heap.size w w' := by
  rw [← B_L a, ← B_L b]
  by_cases h : 400 < (L a).length ∨ 400 < (L b).length
  · exact textJoins_big _ _ w h
  · exact textJoins_small _ _ w (by omega) (by omega)

set_option maxRecDepth 100000 in
theorem textJoins_lifted (os : Os) (started : os.Started) (H : Type) (enc : TypeId × Value → H) :
    ReturnsInHanded {} Try.checked os 7 .any (Rows.textJoinsSpec.pre6 enc Try.prog Try.f7 Rows.textJoinsRow.domain false) (Rows.textJoinsSpec.post enc Try.prog Try.f7 false true false false) := by
  refine returnsInHanded_of_change (C := Try.checked) textJoins_own started (by kernel_rfl) Try.func7
    (ChangeSpec.witness6 (enc := enc) (C := Try.checked) false ⟨#[], #[.string ByteArray.empty, .string ByteArray.empty], []⟩ 8 (by kernel_rfl) (by kernel_rfl) (by kernel_rfl) (by kernel_rfl)) ?_
  intro W base args ds gs before hval0 hW _ _
  have hval : ∀ (j : Nat) t v, Try.f7.params[j]? = some t → args[j]? = some v → Value.okWide Try.prog W .any base t v := hval0
  have hW' := hW
  obtain ⟨p, q, hA0, hV, rfl, hfz, hnd⟩ := hW
  have hA : DataW.TrodAll enc Try.prog W 0 (fun _ => true) true Try.f7.params.toList args.toList ds p := hA0
  rw [Try.params7] at hA hval
  obtain ⟨v0, vs0, d0, ds0, p0, q0, hargs, rfl, rfl, h0, r0⟩ := trodAll_cons hA
  obtain ⟨v1, vs1, d1, ds1, p1, q1, rfl, rfl, rfl, h1, r1⟩ := trodAll_cons r0
  obtain ⟨rfl, rfl, rfl⟩ := trodAll_nil r1
  obtain rfl : args = #[v0, v1] := by cases args; simp_all
  obtain ⟨rfl, rfl⟩ := trodVars_none hV
  obtain ⟨a0, rfl, rfl, rfl, w0⟩ := open_string Try.underlying9 (hval 0 9 v0 rfl rfl) h0
  obtain ⟨a1, rfl, rfl, rfl, w1⟩ := open_string Try.underlying9 (hval 1 9 v1 rfl rfl) h1
  clear hA0 hval0
  simp only [List.append_nil] at hW'
  refine (textJoins_walk a0 a1 W).mono fun e W' ⟨he, bel⟩ => ?_
  subst he
  exact ⟨_, rfl, _, _, _, [], [], [], hW', trodAll_mk1 (shut_bool Try.underlying4 _), (trodAll_cons_mk (shut_string Try.underlying9 w0) (trodAll_cons_mk (shut_string Try.underlying9 w1) trodAll_mk0)), rfl, bel.frame _, fun h => by cases h⟩

theorem textJoins_holds : Rows.TextJoinsSaid :=
  OpenClaim.holds_of_wide 7 Try.f7 rfl rfl rfl rfl rfl rfl rfl ⟨rfl, rfl, rfl, rfl, rfl⟩ rfl rfl rfl rfl rfl (by kernel_rfl) Try.func7 (by kernel_rfl)
    (of_decide_eq_true (by kernel_rfl)) (by unfold Func.isWrapper; first | (rw [if_pos (by decide +kernel)]; kernel_rfl) | (rw [if_neg (by decide +kernel)]; exact ⟨rfl, rfl⟩))
    (fun os started H enc _ => textJoins_lifted os started H enc)
#print axioms textJoins_holds
end Go.Proofs.Ytnaabapahblhmaa
