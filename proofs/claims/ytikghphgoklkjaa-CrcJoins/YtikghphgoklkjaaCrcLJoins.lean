/-
  Proved: for every number and every three texts the law CrcJoins of package bucketlinelaw3 returns true, and its arguments read as before: a sum goes on; of three texts of one length, xored, it is their sums, xored. No condition.
-/
import Derived.Test.YtikghphgoklkjaaCrcShown
import Derived.Laws.AppendOwn
import Derived.Deep.AppendLies
import Derived.Deep.DeepCutAuto
import Derived.Deep.RegionHeld3
import Derived.ProofKit
import Derived.OpenShut
import Derived.ShutString
namespace Go.Proofs.Ytikghphgoklkjaa
open Go.ChangeShapes Go.WideShapes Go.ChangeAt Go.RowKit
open Go.ChangeMaps (open_string shut_string)
attribute [local go_sem] ext_Bd ext_Bl ext_Bt toList_B add_B size_B get_Bt

theorem crcJoins_own : ownKnob Try.prog.godebug = none := by kernel_rfl

set_option maxHeartbeats 1000000 in
set_option maxRecDepth 100000 in
theorem crcJoins_out (c : Nat) (s t u : List UInt8) (w : World) (h : 2000 < s.length ∨ 2000 < t.length ∨ 2000 < u.length) :
    Calls Try.prog 4 #[.int .u32 c, .string (B s), .string (B t), .string (B u)] w fun e w' => e = .returned (.bool true) ∧ Below w.heap.size w w' := by
  rcases (by omega : 2000 < s.length ∨ (s.length ≤ 2000 ∧ 2000 < t.length) ∨ (s.length ≤ 2000 ∧ t.length ≤ 2000 ∧ 2000 < u.length)) with h1 | ⟨h1, h2⟩ | ⟨h1, h2, h3⟩
  all_goals
    clear h
    go_enter Try.func4, Try.ntmps4
    go_wp2_with fail
    refine (shown3_any w).mono ?_
    rintro e w1 ⟨rfl, hb1⟩
    go_wp2
    go_ret
    exact ⟨rfl, hb1⟩

theorem val_int {k : IntKind} {a b : Int} (h : a = b) : Value.int k a = .int k b := by rw [h]
theorem xor3_val {a b c : Nat} (ha : a < 256) (hb : b < 256) (hc : c < 256) :
    bits BinOp.xor IntKind.u8 (bits BinOp.xor IntKind.u8 (a : Int) (b : Int)) (c : Int) = ((a ^^^ b ^^^ c : Nat) : Int) ∧ a ^^^ b ^^^ c < 256 := by
  have h1 : a ^^^ b < 256 := Nat.xor_lt_two_pow (n := 8) (by omega) (by omega)
  have h2 : a ^^^ b ^^^ c < 256 := Nat.xor_lt_two_pow (n := 8) (by omega) (by omega)
  rw [u8_xor_nat a b ha hb, u8_xor_nat _ c h1 hc]
  exact ⟨rfl, h2⟩

theorem Update_at (c r : Nat) (l : List UInt8) (w : World) (h : c < 4294967296) (hl : l.length ≤ 100000000) (H : Hid (C.upd c l = r)) :
    Calls Try.prog 8 #[.int .u32 c, .string (B l)] w fun e w' => e = .returned (.int .u32 r) ∧ Below w.heap.size w w' := by
  rw [← H.out]; exact Update_l c l w h hl
theorem Update_none (c : Nat) (w : World) (h : c < 4294967296) :
    Calls Try.prog 8 #[.int .u32 c, .string ⟨#[]⟩] w fun e w' => e = .returned (.int .u32 c) ∧ Below w.heap.size w w' :=
  Update_at c c [] w h (by simp) (Lib.hid (C.upd_nil c))
theorem Sum_at (r : Nat) (l : List UInt8) (w : World) (hl : l.length ≤ 100000000) (H : Hid (C.upd 0 l = r)) :
    Calls Try.prog 10 #[.string (B l)] w fun e w' => e = .returned (.int .u32 r) ∧ Below w.heap.size w w' := by
  rw [← H.out]; exact Sum_l l w hl

/-- What the last statement's calls keep: the row of bytes, and all that was there. -/
structure Kept (w : World) (v : Value) (n : Nat) (x : List UInt8) (a : World) : Prop where
  own : a.ownsRow w.heap.size 5 1 v n (Lib.byteCells x)
  bel : Below w.heap.size w a
def Keeps (w : World) (v : Value) (n : Nat) (x : List UInt8) (a : World) : Prop :=
  (convert 27 9 v).run Try.prog a = .ok (.string (B x)) a ∧ Kept w v n x a
theorem Kept.conv {w : World} {v : Value} {n : Nat} {x : List UInt8} {a : World} (h : Kept w v n x a) : Keeps w v n x a := ⟨conv_owned h.own, h⟩
theorem keeps_drew {w : World} {v : Value} {n : Nat} {x : List UInt8} {a : World} (h : Keeps w v n x a) : Keeps w v n x a.drew :=
  Kept.conv ⟨h.2.own.drew, h.2.bel.drew⟩
theorem keeps_call {w : World} {v : Value} {n : Nat} {x : List UInt8} {a b : World} (h : Keeps w v n x a) (hb : Below a.heap.size a b) : Keeps w v n x b :=
  Kept.conv ⟨own_below h.2.own hb, h.2.bel.trans (hb.mono h.2.bel.size)⟩

set_option maxHeartbeats 4000000 in
set_option maxRecDepth 100000 in
theorem crcJoins_in (c : Nat) (s t u : List UInt8) (n : Nat) (w : World) (hc : c < 4294967296) (hs : s.length ≤ 2000) (ht : t.length ≤ 2000) (hu : u.length ≤ 2000) (HN : Hid (n = min s.length (min t.length u.length))) :
    Calls Try.prog 4 #[.int .u32 c, .string (B s), .string (B t), .string (B u)] w fun e w' => e = .returned (.bool true) ∧ Below w.heap.size w w' := by
  obtain ⟨i0, hi, hz0, hz1, hz2⟩ := info_parts Try.infoByte
  have hns : n ≤ s.length := by have := HN.out; omega
  have hnt : n ≤ t.length := by have := HN.out; omega
  have hnu : n ≤ u.length := by have := HN.out; omega
  go_enter Try.func4, Try.ntmps4
  go_wp2_with fail
  refine (shown3_any w).mono ?_
  rintro e w1 ⟨rfl, hb1⟩
  go_upto_region 4 with (fail)
  go_cut [10] (fun x wx => x = .int .i64 n ∧ w1 = wx)
  case first =>
    rcases (by omega : u.length < t.length ∨ t.length ≤ u.length) with h1 | h1
    · rcases (by omega : u.length < s.length ∨ s.length ≤ u.length) with h2 | h2
      all_goals
        go_wp2
        go_meet
        exact ⟨val_int (by have := HN.out; omega), rfl⟩
    · rcases (by omega : t.length < s.length ∨ s.length ≤ t.length) with h2 | h2
      all_goals
        go_wp2
        go_meet
        exact ⟨val_int (by have := HN.out; omega), rfl⟩
  case rest =>
  obtain ⟨rfl, rfl⟩ := hcut
  clear HN
  go_wp2
  go_loopw [11, 12] (fun v i wr => ∃ (k : Nat) (x : List UInt8), i = .int .i64 k ∧ k ≤ n ∧ x.length = k ∧ C.reg 4294967295 x = C.reg 4294967295 (s.take k) ^^^ C.reg 4294967295 (t.take k) ^^^ C.reg 4294967295 (u.take k) ∧ wr.ownsRow w.heap.size 5 1 v k (Lib.byteCells x) ∧ Below w.heap.size w wr) (fun _ i _ => n - (intOf i).toNat)
  case atStart => exact ⟨0, [], rfl, by omega, rfl, by simp [C.reg], World.ownsRow_nil _ _ _ _, hb1⟩
  case round =>
    clear hb1
    obtain ⟨k, x, rfl, hk, hxl, hreg, hown, hbw⟩ := hrel
    have HX := Lib.hid hxl; clear hxl
    have HREG := Lib.hid hreg; clear hreg
    by_cases hlt : k < n
    · have hk1 : (k : Int) < n := by omega
      have hks : (k : Int) < s.length := by omega
      have hkt : (k : Int) < t.length := by omega
      have hku : (k : Int) < u.length := by omega
      have ha := N.bt_lt s k
      have hb := N.bt_lt t k
      have hd := N.bt_lt u k
      obtain ⟨hx3, hzl⟩ := xor3_val ha hb hd
      have HZ := Lib.hid (show (s.getD k 0).toNat ^^^ (t.getD k 0).toNat ^^^ (u.getD k 0).toNat = N.bt s k ^^^ N.bt t k ^^^ N.bt u k from rfl)
      generalize N.bt s k ^^^ N.bt t k ^^^ N.bt u k = z at *
      have hbase := hbw.size
      clear ha hb hd
      go_wp2
      go_region_held3 (fun _ => True) (trivial)
        ((refine step_append_lies _ (by rfl) _ _ _ (by rfl) w.heap.size 5 i0 _ 1 1 Try.underlying27 hi hz0 hz1 hz2 rfl (by omega) u11 k (Lib.byteCells x) (by rfl) ((hown.alloc _).drew)
            ⟨wr.heap.size, 0, none⟩ 1 1 [.int .u8 z] (by rfl) (by rfl) (World.news_of_block (cs := #[.int .u8 z]) (t := 5) (fr := (0, 0)) (heap_alloc_new wr _)) (by simp [Value.oneCell'])
            (by omega) (by unfold maxLen; omega) (by omega) (by simp; omega) (wr.heap.size + 1) (by simp) ?_; intro gg cap w2 hown2 hgrow hat hlt2))
      all_goals
        have hb3 : Below w.heap.size w w2 := ((hbw.alloc hbase (.cells #[.int .u8 z] 5)).drew).grown hgrow (by simp; omega) (fun g hg => (hown.lt g hg).1)
        have hz8 := N.u8_nat hzl
        rw [show [Value.int .u8 (z : Int)] = Lib.byteCells [z.toUInt8] by simp [Lib.byteCells, hz8], ← Lib.byteCells_append] at hown2
        have HO2 := Lib.hid hown2
        have HZ8 := Lib.hid hz8
        clear hgrow hat hlt2 hown2 hz8 hx3
        go_wp2
        go_roundw
        case rel => exact ⟨k + 1, x ++ [z.toUInt8], by go_num, by omega, by rw [List.length_append, HX.out]; rfl, C.reg_three HREG.out (by omega) (by omega) (by omega) (by rw [HZ8.out]; exact HZ.out.symm), HO2.out, hb3⟩
        case measure => simp [intOf]; omega
    · have hkn : k = n := by omega
      subst hkn
      have hl1 : C.upd c s < 4294967296 := C.upd_lt hc s
      have hup : ∀ l, C.upd 0 l < 4294967296 := fun l => C.upd_lt (by omega) l
      have hxx := u32_xor_nat (C.upd 0 (s.take k)) (C.upd 0 (t.take k)) (hup _) (hup _)
      have hxy := u32_xor_nat (C.upd 0 (s.take k) ^^^ C.upd 0 (t.take k)) (C.upd 0 (u.take k)) (Nat.xor_lt_two_pow (n := 32) (hup _) (hup _)) (hup _)
      rw [← hxx, ← C.upd_three HREG.out] at hxy
      clear hxx hup HREG
      have HD := Lib.hid (C.upd_append c s t)
      obtain ⟨a1, H1⟩ : ∃ a1, Hid (C.upd c s = a1) := ⟨_, Lib.hid rfl⟩
      rw [H1.out] at hl1 HD
      obtain ⟨a2, H2⟩ : ∃ a2, Hid (C.upd a1 t = a2) := ⟨_, Lib.hid rfl⟩
      rw [H2.out] at HD
      obtain ⟨y, HY⟩ : ∃ y, Hid (C.upd 0 x = y) := ⟨_, Lib.hid rfl⟩
      obtain ⟨p, HP⟩ : ∃ p, Hid (C.upd 0 (s.take k) = p) := ⟨_, Lib.hid rfl⟩
      obtain ⟨q, HQ⟩ : ∃ q, Hid (C.upd 0 (t.take k) = q) := ⟨_, Lib.hid rfl⟩
      obtain ⟨r, HR⟩ : ∃ r, Hid (C.upd 0 (u.take k) = r) := ⟨_, Lib.hid rfl⟩
      rw [HY.out, HP.out, HQ.out, HR.out] at hxy
      have hxl : x.length ≤ 100000000 := by rw [HX.out]; omega
      have hst : (s ++ t).length ≤ 100000000 := by rw [List.length_append]; omega
      have hsk : (s.take k).length ≤ 100000000 := by rw [List.length_take]; omega
      have htk : (t.take k).length ≤ 100000000 := by rw [List.length_take]; omega
      have huk : (u.take k).length ≤ 100000000 := by rw [List.length_take]; omega
      have hsl : s.length ≤ 100000000 := by omega
      have htl : t.length ≤ 100000000 := by omega
      have HL := Lib.hid (And.intro hsl (And.intro htl (And.intro hst (And.intro hxl (And.intro hsk (And.intro htk huk))))))
      have hsb : k ≤ (B s).size := by rw [size_B]; omega
      have htb : k ≤ (B t).size := by rw [size_B]; omega
      have hub : k ≤ (B u).size := by rw [size_B]; omega
      have hsi : (k : Int) ≤ s.length := by omega
      have hti : (k : Int) ≤ t.length := by omega
      have hui : (k : Int) ≤ u.length := by omega
      clear hxl hst hsk htk huk hsl htl
      have hcat : ∀ w' : World, (Op.stringOp .add (B s) (B t)).run Try.prog w' = .ok (.string (B (s ++ t))) w' := fun w' => by
        rw [run_string_add_sum w' (B s) (B t) (by rw [size_B, size_B]; omega), add_B]
      have hS : Keeps w u11 k x wr := Kept.conv ⟨hown, hbw⟩
      clear hown hbw
      unfold Keeps at hS
      go_wp2
      go_region_held3 (fun w' => (convert 27 9 u11).run Try.prog w' = .ok (.string (B x)) w' ∧ Kept w u11 k x w')
        (first | assumption | exact keeps_drew (by assumption) | exact keeps_call (by assumption) (by assumption))
        (first
          | (go_at_call 8; with_reducible refine (Update_at c a1 s _ hc HL.out.1 H1).mono ?_; rintro e w4 ⟨rfl, hb4⟩)
          | (go_at_call 8; with_reducible refine (Update_at a1 a2 t _ hl1 HL.out.2.1 H2).mono ?_; rintro e w5 ⟨rfl, hb5⟩)
          | (go_at_call 8; with_reducible refine (Update_at c a2 (s ++ t) _ hc HL.out.2.2.1 HD).mono ?_; rintro e w6 ⟨rfl, hb6⟩)
          | (go_at_call 8; with_reducible refine (Update_none c _ hc).mono ?_; rintro e w7 ⟨rfl, hb7⟩)
          | (go_at_call 10; with_reducible refine (Sum_at y x _ HL.out.2.2.2.1 HY).mono ?_; rintro e w8 ⟨rfl, hb8⟩)
          | (go_at_call 10; with_reducible refine (Sum_at p (s.take k) _ HL.out.2.2.2.2.1 HP).mono ?_; rintro e w9 ⟨rfl, hb9⟩)
          | (go_at_call 10; with_reducible refine (Sum_at q (t.take k) _ HL.out.2.2.2.2.2.1 HQ).mono ?_; rintro e w10 ⟨rfl, hb10⟩)
          | (go_at_call 10; with_reducible refine (Sum_at r (u.take k) _ HL.out.2.2.2.2.2.2 HR).mono ?_; rintro e w11 ⟨rfl, hb11⟩))
      rename_i hHeld
      have HB := Lib.hid hHeld.2.bel
      clear hHeld
      go_wp2
      go_ret
      exact ⟨rfl, HB.out⟩

theorem crcJoins_walk (z : Int) (hz : (Lit.int .u32 z).wf = true) (s t u : ByteArray) (w : World) :
    Calls Try.prog 4 #[.int .u32 z, .string s, .string t, .string u] w fun e w' => e = .returned (.bool true) ∧ Below w.heap.size w w' := by
  obtain ⟨c, rfl, hc⟩ := u32_nat hz
  rw [← B_L s, ← B_L t, ← B_L u]
  by_cases h : 2000 < (L s).length ∨ 2000 < (L t).length ∨ 2000 < (L u).length
  · exact crcJoins_out c (L s) (L t) (L u) w h
  · exact crcJoins_in c (L s) (L t) (L u) _ w hc (by omega) (by omega) (by omega) (Lib.hid rfl)

set_option maxRecDepth 100000 in
theorem crcJoins_lifted (os : Os) (started : os.Started) (H : Type) (enc : TypeId × Value → H) :
    ReturnsInHanded {} Try.checked os 4 .any (Rows.crcJoinsSpec.pre6 enc Try.prog Try.f4 Rows.crcJoinsRow.domain false) (Rows.crcJoinsSpec.post enc Try.prog Try.f4 false true false false) := by
  refine returnsInHanded_of_change (C := Try.checked) crcJoins_own started (by kernel_rfl) Try.func4
    (ChangeSpec.witness6 (enc := enc) (C := Try.checked) false ⟨#[], #[.int .u32 0, .string ByteArray.empty, .string ByteArray.empty, .string ByteArray.empty], []⟩ 8 (by kernel_rfl) (by kernel_rfl) (by kernel_rfl) (by kernel_rfl)) ?_
  intro W base args ds gs before hval0 hW _ _
  have hval : ∀ (j : Nat) t v, Try.f4.params[j]? = some t → args[j]? = some v → Value.okWide Try.prog W .any base t v := hval0
  have hW' := hW
  obtain ⟨p, q, hA0, hV, rfl, hfz, hnd⟩ := hW
  have hA : DataW.TrodAll enc Try.prog W 0 (fun _ => true) true Try.f4.params.toList args.toList ds p := hA0
  rw [Try.params4] at hA hval
  obtain ⟨v0, vs0, d0, ds0, p0, q0, hargs, rfl, rfl, h0, r0⟩ := trodAll_cons hA
  obtain ⟨v1, vs1, d1, ds1, p1, q1, rfl, rfl, rfl, h1, r1⟩ := trodAll_cons r0
  obtain ⟨v2, vs2, d2, ds2, p2, q2, rfl, rfl, rfl, h2, r2⟩ := trodAll_cons r1
  obtain ⟨v3, vs3, d3, ds3, p3, q3, rfl, rfl, rfl, h3, r3⟩ := trodAll_cons r2
  obtain ⟨rfl, rfl, rfl⟩ := trodAll_nil r3
  obtain rfl : args = #[v0, v1, v2, v3] := by cases args; simp_all
  obtain ⟨rfl, rfl⟩ := trodVars_none hV
  obtain ⟨a0, rfl, rfl, rfl, w0⟩ := open_int Try.underlying22 (hval 0 22 v0 rfl rfl) h0
  obtain ⟨a1, rfl, rfl, rfl, w1⟩ := open_string Try.underlying9 (hval 1 9 v1 rfl rfl) h1
  obtain ⟨a2, rfl, rfl, rfl, w2⟩ := open_string Try.underlying9 (hval 2 9 v2 rfl rfl) h2
  obtain ⟨a3, rfl, rfl, rfl, w3⟩ := open_string Try.underlying9 (hval 3 9 v3 rfl rfl) h3
  clear hA0 hval0
  simp only [List.append_nil] at hW'
  refine (crcJoins_walk a0 w0 a1 a2 a3 W).mono fun e W' ⟨he, bel⟩ => ?_
  subst he
  exact ⟨_, rfl, _, _, _, [], [], [], hW', trodAll_mk1 (shut_bool Try.underlying4 _), (trodAll_cons_mk (shut_int Try.underlying22 w0) (trodAll_cons_mk (shut_string Try.underlying9 w1) (trodAll_cons_mk (shut_string Try.underlying9 w2) (trodAll_cons_mk (shut_string Try.underlying9 w3) trodAll_mk0)))), rfl, bel.frame _, fun h => by cases h⟩

theorem crcJoins_holds : Rows.CrcJoinsSaid :=
  OpenClaim.holds_of_wide 4 Try.f4 rfl rfl rfl rfl rfl rfl rfl ⟨rfl, rfl, rfl, rfl, rfl⟩ rfl rfl rfl rfl rfl (by kernel_rfl) Try.func4 (by kernel_rfl)
    (of_decide_eq_true (by kernel_rfl)) (by unfold Func.isWrapper; first | (rw [if_pos (by decide +kernel)]; kernel_rfl) | (rw [if_neg (by decide +kernel)]; exact ⟨rfl, rfl⟩))
    (fun os started H enc _ => crcJoins_lifted os started H enc)
#print axioms crcJoins_holds
end Go.Proofs.Ytikghphgoklkjaa
