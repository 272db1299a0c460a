/-
  Proved: for every text and every byte the law TextNames of package bucketlinelaw1 returns true, and its arguments read as before: a name with one rune more is a name, if that is one of names and it has no more than 32. No condition.
-/
import Derived.Test.YtnaabapahblhmaaW10
import Derived.Deep.DeepCutAuto
import Derived.ProofKit
import Derived.OpenShut
import Derived.ShutString
namespace Go.Proofs.Ytnaabapahblhmaa
open Go.ChangeShapes Go.WideShapes Go.ChangeAt Go.RowKit
open Go.ChangeMaps (open_string shut_string)
attribute [local go_sem] ext_Bd ext_Bt toList_B add_B size_B

theorem textNames_own : ownKnob Try.prog.godebug = none := by kernel_rfl

def lettr (n : Int) : Bool := (97 ≤ n && n ≤ 122) || (65 ≤ n && n ≤ 90) || (48 ≤ n && n ≤ 57) || n == 45 || n == 95 || n == 46
theorem let_name (c : UInt8) : nameL [c] = lettr c.toNat := by
  have hc := c.toNat_lt
  by_cases h : c.toNat < 128
  · have e : T.nums [c] = [(c.toNat : Int)] := by rw [T.nums_ascii h]; rfl
    unfold nameL
    rw [e, Bool.eq_iff_iff]
    simp [nameR, lettr]; omega
  · have e : T.decN [c] = (65533, 1) := by
      rcases T.dec_cases [c] with ⟨a, e⟩ | ⟨a, e⟩ | ⟨hl, _⟩ | ⟨hl, _⟩ | ⟨hl, _⟩
      · simp [T.bt] at a; omega
      · exact e
      · simp at hl
      · simp at hl
      · simp at hl
    have e2 : T.nums [c] = [-1] := by rw [T.nums_cons (by simp)]; simp [T.num, T.wid, e, T.nums_nil]
    unfold nameL
    rw [e2, Bool.eq_iff_iff]
    simp [nameR, lettr]; omega
theorem name_more {l l2 : List UInt8} {c : UInt8} (hc : c.toNat < 128) (h : nameL l = true) (hl : T.nums l2 = T.nums l ++ [(c.toNat : Int)] ∨ T.nums l2 = (c.toNat : Int) :: T.nums l) :
    nameL l2 = (lettr c.toNat && decide ((T.nums l).length < 32)) := by
  have hn : nameR c.toNat = lettr c.toNat := by
    rw [Bool.eq_iff_iff]; simp [nameR, lettr]; omega
  unfold nameL at h ⊢
  simp only [Bool.and_eq_true, decide_eq_true_eq] at h
  rcases hl with e | e <;> rw [e, Bool.eq_iff_iff] <;> simp [hn] <;> simp at h <;> constructor <;> intro hh <;> simp_all <;> omega
theorem name_len {l : List UInt8} (h : nameL l = true) : (T.nums l).length ≤ 32 := by
  unfold nameL at h
  simp only [Bool.and_eq_true, decide_eq_true_eq] at h
  exact h.1.2

theorem lettr_classes (c : UInt8) :
    ((97 ≤ c.toNat) ∧ (c.toNat ≤ 122) ∧ lettr c.toNat = true) ∨
    ((65 ≤ c.toNat) ∧ (c.toNat ≤ 90) ∧ lettr c.toNat = true) ∨
    ((48 ≤ c.toNat) ∧ (c.toNat ≤ 57) ∧ lettr c.toNat = true) ∨
    ((c.toNat < 48) ∧ ((c.toNat : Int) == 45) = true ∧ lettr c.toNat = true) ∨
    ((91 ≤ c.toNat) ∧ (c.toNat < 97) ∧ ((c.toNat : Int) == 45) = false ∧ ((c.toNat : Int) == 95) = true ∧ lettr c.toNat = true) ∨
    ((c.toNat < 48) ∧ ((c.toNat : Int) == 45) = false ∧ ((c.toNat : Int) == 95) = false ∧ ((c.toNat : Int) == 46) = true ∧ lettr c.toNat = true) ∨
    ((122 < c.toNat) ∧ ((c.toNat : Int) == 45) = false ∧ ((c.toNat : Int) == 95) = false ∧ ((c.toNat : Int) == 46) = false ∧ lettr c.toNat = false) ∨
    ((91 ≤ c.toNat) ∧ (c.toNat < 97) ∧ ((c.toNat : Int) == 45) = false ∧ ((c.toNat : Int) == 95) = false ∧ ((c.toNat : Int) == 46) = false ∧ lettr c.toNat = false) ∨
    ((58 ≤ c.toNat) ∧ (c.toNat < 65) ∧ ((c.toNat : Int) == 45) = false ∧ ((c.toNat : Int) == 95) = false ∧ ((c.toNat : Int) == 46) = false ∧ lettr c.toNat = false) ∨
    ((c.toNat < 48) ∧ ((c.toNat : Int) == 45) = false ∧ ((c.toNat : Int) == 95) = false ∧ ((c.toNat : Int) == 46) = false ∧ lettr c.toNat = false) := by
  simp only [beq_iff_eq, beq_eq_false_iff_ne, lettr, Bool.or_eq_true, Bool.and_eq_true, decide_eq_true_eq, Bool.or_eq_false_iff, Bool.and_eq_false_iff, decide_eq_false_iff_not]
  omega

set_option maxHeartbeats 1000000 in
set_option maxRecDepth 100000 in
theorem textNames_small (l : List UInt8) (c : UInt8) (w : World) (hl : l.length ≤ 200) :
    Calls Try.prog 9 #[.string (B l), .int .u8 c.toNat] w fun e w' => e = .returned (.bool true) ∧ Below w.heap.size w w' := by
  have hl2 : ¬ 200 < (B l).size := by rw [size_B]; omega
  have hc := c.toNat_lt
  go_enter Try.func9, Try.ntmps9
  go_wp2_with fail
  refine (shown_any w).mono ?_
  rintro e w1 ⟨rfl, hb1⟩
  go_upto_region 4 with (fail)
  go_cut [6] (fun s6 wx => s6 = .bool (lettr c.toNat) ∧ w1 = wx)
  case first =>
    have hcl := lettr_classes c
    rcases hcl with ⟨x, y, k⟩ | ⟨x, y, k⟩ | ⟨x, y, k⟩ | ⟨x, e1, k⟩ | ⟨x, y, e1, e2, k⟩ | ⟨x, e1, e2, e3, k⟩ | ⟨x, e1, e2, e3, k⟩ | ⟨x, y, e1, e2, e3, k⟩ | ⟨x, y, e1, e2, e3, k⟩ | ⟨x, e1, e2, e3, k⟩
    all_goals
      have K := Lib.hid k
      clear k
      go_wp2
      go_meet
      exact ⟨congrArg Value.bool (by first | exact K.out.symm | (rw [K.out]; simp; omega)), rfl⟩
  case rest =>
    obtain ⟨rfl, rfl⟩ := hcut
    have HL := Lib.hid (let_name c)
    have hcv := conv_owned (l := [c]) (World.ownsRow_lit (base := w1.heap.size) (e := 5) (size := 1) w1 #[.int .u8 c.toNat] 1 (Nat.le_refl _) (by decide) rfl)
    have hbb1 : Below w.heap.size w (w1.alloc (.cells #[.int .u8 c.toNat] 5)) := hb1.alloc hb1.size _
    go_wp2_with fail
    refine (Runes_l l _ (by omega)).mono ?_
    rintro e w3 ⟨v, rfl, hown, hb3⟩
    obtain ⟨vp, vc, rfl, _⟩ := reads_own hown
    rw [intCells_len]
    have hbb3 := hbb1.trans (hb3.mono hbb1.size)
    have hnl := T.nums_len l
    clear hb3 hbb1 hown hcv
    go_wp2_with fail
    refine (chain (Name_l [c] _ (by simp)) hbb3).mono ?_
    rintro e w4 ⟨rfl, hbb4⟩
    rw [HL.out]
    clear hbb3
    cases hn : nameL l
    · have HN := Lib.hid hn; clear hn
      go_wp2_with (go_at_call 15; refine (chain (Name_l l _ (by omega)) (by assumption)).mono ?_; rintro e w5 ⟨rfl, hbb5⟩; rw [HN.out])
      go_ret
      exact ⟨rfl, by assumption⟩
    · have hn32 := name_len hn
      by_cases hc1 : c.toNat < 128
      · have hN1 := name_more (l2 := l ++ [c]) hc1 hn (.inl (by rw [T.nums_append l.length l (Nat.le_refl _) hc1, T.nums_ascii hc1]; rfl))
        have hN2 := name_more (l2 := c :: l) hc1 hn (.inr (T.nums_ascii hc1 l))
        have hge : ¬ 128 ≤ c.toNat := by omega
        clear HL
        generalize lettr c.toNat = lt at *
        by_cases h32 : (T.nums l).length < 32
        · have hd : decide ((T.nums l).length < 32) = true := by simpa using h32
          rw [hd, Bool.and_true] at hN1 hN2
          cases lt
          all_goals
            go_wp2_with (go_at_call 15; refine (chain (Name_l _ _ (by first | omega | (simp; omega))) (by assumption)).mono ?_; rintro e w5 ⟨rfl, hbb5⟩)
            go_ret
            exact ⟨rfl, by assumption⟩
        · have hd : decide ((T.nums l).length < 32) = false := by simpa using h32
          rw [hd, Bool.and_false] at hN1 hN2
          cases lt
          all_goals
            go_wp2_with (go_at_call 15; refine (chain (Name_l _ _ (by first | omega | (simp; omega))) (by assumption)).mono ?_; rintro e w5 ⟨rfl, hbb5⟩)
            go_ret
            exact ⟨by first | rfl | exact ret_bool (by simp; omega), by assumption⟩
      · have HN := Lib.hid hn; clear hn
        go_wp2_with (go_at_call 15; refine (chain (Name_l l _ (by omega)) (by assumption)).mono ?_; rintro e w5 ⟨rfl, hbb5⟩; rw [HN.out])
        go_ret
        exact ⟨rfl, by assumption⟩

set_option maxHeartbeats 1000000 in
set_option maxRecDepth 100000 in
theorem textNames_big (l : List UInt8) (n : Int) (w : World) (h : 200 < l.length) :
    Calls Try.prog 9 #[.string (B l), .int .u8 n] w fun e w' => e = .returned (.bool true) ∧ Below w.heap.size w w' := by
  go_enter Try.func9, Try.ntmps9
  go_wp2_with (go_at_call 11; refine (shown_any w).mono ?_; rintro e w1 ⟨rfl, hb1⟩)
  go_ret
  exact ⟨rfl, hb1⟩

theorem textNames_walk (a : ByteArray) (n : Int) (hn : (Lit.int .u8 n).wf = true) (w : World) : Calls Try.prog 9 #[.string a, .int .u8 n] w fun e w' => e = .returned (.bool true) ∧ Below w.heap.size w w' := by
  rw [← B_L a]
  by_cases h : 200 < (L a).length
  · exact textNames_big _ _ w h
  · have hb := bounds_u8 hn
    have e : n = ((UInt8.ofNat n.toNat).toNat : Int) := by simp; omega
    rw [e]
    exact textNames_small _ _ w (by omega)

set_option maxRecDepth 100000 in
theorem textNames_lifted (os : Os) (started : os.Started) (H : Type) (enc : TypeId × Value → H) :
    ReturnsInHanded {} Try.checked os 9 .any (Rows.textNamesSpec.pre6 enc Try.prog Try.f9 Rows.textNamesRow.domain false) (Rows.textNamesSpec.post enc Try.prog Try.f9 false true false false) := by
  refine returnsInHanded_of_change (C := Try.checked) textNames_own started (by kernel_rfl) Try.func9
    (ChangeSpec.witness6 (enc := enc) (C := Try.checked) false ⟨#[], #[.string ByteArray.empty, .int .u8 0], []⟩ 8 (by kernel_rfl) (by kernel_rfl) (by kernel_rfl) (by kernel_rfl)) ?_
  intro W base args ds gs before hval0 hW _ _
  have hval : ∀ (j : Nat) t v, Try.f9.params[j]? = some t → args[j]? = some v → Value.okWide Try.prog W .any base t v := hval0
  have hW' := hW
  obtain ⟨p, q, hA0, hV, rfl, hfz, hnd⟩ := hW
  have hA : DataW.TrodAll enc Try.prog W 0 (fun _ => true) true Try.f9.params.toList args.toList ds p := hA0
  rw [Try.params9] at hA hval
  obtain ⟨v0, vs0, d0, ds0, p0, q0, hargs, rfl, rfl, h0, r0⟩ := trodAll_cons hA
  obtain ⟨v1, vs1, d1, ds1, p1, q1, rfl, rfl, rfl, h1, r1⟩ := trodAll_cons r0
  obtain ⟨rfl, rfl, rfl⟩ := trodAll_nil r1
  obtain rfl : args = #[v0, v1] := by cases args; simp_all
  obtain ⟨rfl, rfl⟩ := trodVars_none hV
  obtain ⟨a0, rfl, rfl, rfl, w0⟩ := open_string Try.underlying9 (hval 0 9 v0 rfl rfl) h0
  obtain ⟨a1, rfl, rfl, rfl, w1⟩ := open_int Try.underlying5 (hval 1 5 v1 rfl rfl) h1
  clear hA0 hval0
  simp only [List.append_nil] at hW'
  refine (textNames_walk a0 a1 w1 W).mono fun e W' ⟨he, bel⟩ => ?_
  subst he
  exact ⟨_, rfl, _, _, _, [], [], [], hW', trodAll_mk1 (shut_bool Try.underlying4 _), (trodAll_cons_mk (shut_string Try.underlying9 w0) (trodAll_cons_mk (shut_int Try.underlying5 w1) trodAll_mk0)), rfl, bel.frame _, fun h => by cases h⟩

theorem textNames_holds : Rows.TextNamesSaid :=
  OpenClaim.holds_of_wide 9 Try.f9 rfl rfl rfl rfl rfl rfl rfl ⟨rfl, rfl, rfl, rfl, rfl⟩ rfl rfl rfl rfl rfl (by kernel_rfl) Try.func9 (by kernel_rfl)
    (of_decide_eq_true (by kernel_rfl)) (by unfold Func.isWrapper; first | (rw [if_pos (by decide +kernel)]; kernel_rfl) | (rw [if_neg (by decide +kernel)]; exact ⟨rfl, rfl⟩))
    (fun os started H enc _ => textNames_lifted os started H enc)
#print axioms textNames_holds
end Go.Proofs.Ytnaabapahblhmaa
