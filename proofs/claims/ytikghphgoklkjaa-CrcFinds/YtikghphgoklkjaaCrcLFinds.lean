/-
  Proved: for every number, text, place and bits the law CrcFinds of package bucketlinelaw3 returns true, and its arguments read as before: two texts of one length that are unlike in up to 32 bits beside one another have unlike sums. No condition.
-/
import Derived.Test.YtikghphgoklkjaaCrcShown
import Derived.Laws.IdiomStrings
import Derived.Deep.RegionHeld3
import Derived.ProofKit
import Derived.OpenShut
import Derived.ShutString
namespace Go.Proofs.Ytikghphgoklkjaa
open Go.ChangeShapes Go.WideShapes Go.ChangeAt Go.RowKit
open Go.ChangeMaps (open_string shut_string)
attribute [local go_sem] ext_Bd ext_Bl ext_Bt toList_B add_B size_B get_Bt

theorem crcFinds_own : ownKnob Try.prog.godebug = none := by kernel_rfl

set_option maxHeartbeats 1000000 in
set_option maxRecDepth 100000 in
theorem crcFinds_out (c m : Nat) (l : List UInt8) (p : Int) (w : World) (h : 2000 < l.length ∨ m = 0 ∨ p < 0 ∨ 8 * (l.length : Int) ≤ p) :
    Calls Try.prog 5 #[.int .u32 c, .string (B l), .int .i64 p, .int .u32 m] w fun e w' => e = .returned (.bool true) ∧ Below w.heap.size w w' := by
  by_cases h1 : 2000 < l.length
  · clear h
    go_enter Try.func5, Try.ntmps5
    go_wp2_with fail
    refine (shown3_any w).mono ?_
    rintro e w1 ⟨rfl, hb1⟩
    go_wp2
    go_ret
    exact ⟨rfl, hb1⟩
  · by_cases h2 : m = 0
    · subst h2
      clear h
      go_enter Try.func5, Try.ntmps5
      go_wp2_with fail
      refine (shown3_any w).mono ?_
      rintro e w1 ⟨rfl, hb1⟩
      go_wp2
      go_ret
      exact ⟨rfl, hb1⟩
    · have h2b : ((m : Int) == 0) = false := by simp; omega
      by_cases h3 : p < 0
      · clear h
        go_enter Try.func5, Try.ntmps5
        go_wp2_with fail
        refine (shown3_any w).mono ?_
        rintro e w1 ⟨rfl, hb1⟩
        go_wp2
        go_ret
        exact ⟨rfl, hb1⟩
      · have h4 : 8 * (l.length : Int) ≤ p := by omega
        clear h
        go_enter Try.func5, Try.ntmps5
        go_wp2_with fail
        refine (shown3_any w).mono ?_
        rintro e w1 ⟨rfl, hb1⟩
        go_wp2
        go_ret
        exact ⟨rfl, hb1⟩

/-- Block g holds the bytes of a text, in memory that was not there before. -/
structure Row (w0 wr : World) (g : Nat) (l : List UInt8) : Prop where
  cell : ∀ j, j < l.length → wr.cell? ⟨g, j, none⟩ = some (.int .u8 (N.bt l j : Nat))
  loose : ∀ j, j < l.length → wr.frozen? ⟨g, j, none⟩ = false
  new : w0.heap.size ≤ g
  below : Below w0.heap.size w0 wr
theorem row_made {w w1 : World} (hb : Below w.heap.size w w1) (l : List UInt8) (k : Nat) :
    Row w (w1.alloc (.cells (bytesRow (B l) k) 5 ((bytesRow (B l) k).size, (bytesRow (B l) k).size + 1))).drew w1.heap.size l := by
  have hs : ∀ j, j < l.length → j < (bytesRow (B l) k).size := fun j hj => by
    have : j < (B l).data.size := by simpa [B] using hj
    exact (Array.getElem?_eq_some_iff.1 (bytesRow_at (B l) k j this)).1
  refine ⟨fun j hj => ?_, fun j hj => ?_, hb.size, (hb.alloc hb.size _).drew⟩
  · show (w1.alloc _).cell? _ = _
    have : j < (B l).data.size := by simpa [B] using hj
    rw [World.cell?_alloc_mark, bytesRow_at (B l) k j this]
    simp [B, N.bt, List.getD_eq_getElem?_getD, hj]
  · show (w1.alloc _).frozen? _ = _
    rw [World.frozen?_alloc_mark]
    have := hs j hj
    have h2 : ¬ (bytesRow (B l) k).size ≤ j := by omega
    simp [h2]
theorem Row.conv {w wr : World} {g : Nat} {t : List UInt8} (h : Row w wr g t) (cap : Nat) {n : Nat} (hn : n = t.length) :
    (convert 27 9 (.slice (some ⟨g, 0, none⟩) n cap)).run Try.prog wr = .ok (.string (B t)) wr := by
  subst hn
  refine run_convert_bytes_back wr 27 9 5 ⟨g, 0, none⟩ cap t Try.underlying27 Try.underlying5 Try.underlying9 fun j hj => ?_
  have h2 := h.cell j hj
  rw [Go.WideShapes.add_plain, Nat.zero_add, h2]
  simp [N.bt, List.getD_eq_getElem?_getD, hj]

theorem bt_set {t : List UInt8} {i : Nat} (h : i < t.length) (b : UInt8) (j : Nat) : N.bt (t.set i b) j = if i = j then b.toNat else N.bt t j := by
  unfold N.bt
  by_cases hj : i = j
  · subst hj
    simp [List.getD_eq_getElem?_getD, h]
  · simp [List.getD_eq_getElem?_getD, List.getElem?_set_ne hj, hj]
theorem Row.flip {w wr : World} {g i : Nat} {t : List UInt8} (h : Row w wr g t) (hi : i < t.length) (b : UInt8) :
    Row w (wr.setCell ⟨g, i, none⟩ (.int .u8 (b.toNat : Int))).drew g (t.set i b) := by
  refine ⟨fun j hj => ?_, fun j hj => ?_, h.new, (h.below.setCell (p := ⟨g, i, none⟩) h.new _).drew⟩
  · rw [List.length_set] at hj
    show (wr.setCell _ _).cell? _ = _
    rw [bt_set hi]
    by_cases hj2 : i = j
    · subst hj2
      rw [if_pos rfl]
      exact World.cell?_setCell_same _ _ _ (h.cell i hi)
    · rw [if_neg hj2, World.cell?_setCell_other _ _ _ _ (by simp)]
      exact h.cell j hj
  · rw [List.length_set] at hj
    show (wr.setCell _ _).frozen? _ = _
    rw [World.frozen?_setCell]
    exact h.loose j hj
theorem flip_val {a j : Nat} (ha : a < 256) (hj : j < 8) : bits BinOp.xor IntKind.u8 (a : Int) ((2 : Int) ^ j % 256) = ((a ^^^ 2 ^ j : Nat) : Int) ∧ a ^^^ 2 ^ j < 256 := by
  have h1 : 2 ^ j < 2 ^ 8 := Nat.pow_lt_pow_right (by omega) hj
  have h3 : (2 : Int) ^ j = ((2 ^ j : Nat) : Int) := by rw [Int.natCast_pow]; rfl
  rw [h3]
  generalize 2 ^ j = x at h1
  have h2 : (x : Int) % 256 = x := by omega
  rw [h2]
  exact ⟨u8_xor_nat a x ha (by omega), Nat.xor_lt_two_pow (n := 8) (by omega) h1⟩
theorem val_go {t l : List UInt8} {p m k q : Nat} (hq : q = p + k) (hv : C.val t = C.val l ^^^ 2 ^ p * (m % 2 ^ k)) (hb : m / 2 ^ k % 2 = 1) (hi : q / 8 < t.length) {b : UInt8} (hbt : b.toNat = N.bt t (q / 8) ^^^ 2 ^ (q % 8)) :
    C.val (t.set (q / 8) b) = C.val l ^^^ 2 ^ p * (m % 2 ^ (k + 1)) := by
  rw [C.val_set t (q / 8) (q % 8) b hi hbt, C.bits_more_one hb, C.mul_xor, hv, show 8 * (q / 8) + q % 8 = p + k by omega, Nat.pow_add, Nat.xor_assoc]

theorem bit_val {m k : Nat} (hm : m < 4294967296) : bits BinOp.and IntKind.u32 ((m : Int) / 2 ^ k) 1 = ((m / 2 ^ k % 2 : Nat) : Int) := by
  have h1 : m / 2 ^ k < 4294967296 := Nat.lt_of_le_of_lt (Nat.div_le_self _ _) hm
  have h2 := u32_and_nat (m / 2 ^ k) 1 h1 (by omega)
  rw [nat_mask1] at h2
  have h3 : ((m / 2 ^ k : Nat) : Int) = (m : Int) / 2 ^ k := by rw [Int.natCast_ediv, Int.natCast_pow]; rfl
  rw [h3] at h2
  exact h2
theorem bit_yes {m k : Nat} (hm : m < 4294967296) (h : m / 2 ^ k % 2 = 1) : (bits BinOp.and IntKind.u32 ((m : Int) / 2 ^ k) 1 == 1) = true := by
  rw [bit_val hm, h]; rfl
theorem bit_no {m k : Nat} (hm : m < 4294967296) (h : m / 2 ^ k % 2 = 0) : (bits BinOp.and IntKind.u32 ((m : Int) / 2 ^ k) 1 == 1) = false := by
  rw [bit_val hm, h]; rfl

set_option maxHeartbeats 4000000 in
set_option maxRecDepth 100000 in
theorem crcFinds_in (c m p : Nat) (l : List UInt8) (w : World) (hc : c < 4294967296) (hm : m < 4294967296) (hm0 : m ≠ 0) (hl : l.length ≤ 2000) (hp : p < 8 * l.length) :
    Calls Try.prog 5 #[.int .u32 c, .string (B l), .int .i64 p, .int .u32 m] w fun e w' => e = .returned (.bool true) ∧ Below w.heap.size w w' := by
  have hmb : ((m : Int) == 0) = false := by simp; omega
  have hpb : (p : Int) < 8 * (l.length : Int) := by omega
  have kc := fun (w : World) (s : ByteArray) => run_bytes_of_string (P := Try.prog) w 9 27 5 s Try.underlying9 Try.underlying27 Try.underlying5
  go_enter Try.func5, Try.ntmps5
  go_wp2_with fail
  refine (shown3_any w).mono ?_
  rintro e w1 ⟨rfl, hb1⟩
  go_wp2
  have hrow := row_made hb1 l (grownCap w1 l.length 0 5)
  generalize (w1.alloc (.cells (bytesRow (B l) (grownCap w1 l.length 0 5)) 5 ((bytesRow (B l) (grownCap w1 l.length 0 5)).size, (bytesRow (B l) (grownCap w1 l.length 0 5)).size + 1))).drew = w2 at *
  generalize grownCap w1 l.length 0 5 = cap at *
  generalize w1.heap.size = g at *
  clear kc hb1
  have HROW := Lib.hid hrow; clear hrow
  go_loopw [11] (fun i wr => ∃ (k : Nat) (t : List UInt8), i = .int .i64 k ∧ k ≤ 32 ∧ p + k ≤ 8 * l.length ∧ t.length = l.length ∧ C.val t = C.val l ^^^ 2 ^ p * (m % 2 ^ k) ∧ Row w wr g t) (fun i _ => 32 - (intOf i).toNat)
  case atStart => exact ⟨0, l, rfl, by omega, by omega, rfl, by simp [Nat.mod_one], HROW.out⟩
  case round =>
    clear HROW
    obtain ⟨k, t, rfl, hk, hpk, htl, hv, hr⟩ := hrel
    have HR := Lib.hid hr; clear hr
    have HV := Lib.hid hv; clear hv
    have HTL := Lib.hid htl; clear htl
    by_cases hgo : k < 32 ∧ p + k < 8 * l.length
    · obtain ⟨hg1, hg2⟩ := hgo
      have hb1 : (k : Int) < 32 := by omega
      have hb2 : (p : Int) + k < 8 * (l.length : Int) := by omega
      by_cases hbit : m / 2 ^ k % 2 = 1
      · have HBIT := Lib.hid hbit
        have hby := bit_yes hm hbit
        clear hbit
        obtain ⟨q, hq⟩ : ∃ q : Nat, q = p + k := ⟨_, rfl⟩
        have hqi : (p : Int) + k = q := by omega
        have hq8 : q / 8 < t.length := by rw [HTL.out]; omega
        have hcell := HR.out.cell (q / 8) hq8
        have hfz := HR.out.loose (q / 8) hq8
        rw [HTL.out] at hq8
        have hqb : (q : Int) / 8 < (l.length : Int) := by omega
        have HQ := Lib.hid hq; clear hq
        go_wp2
        go_region
        all_goals (try go_wp2)
        have hbt := N.bt_lt t (q / 8)
        obtain ⟨hf1, hf2⟩ := flip_val hbt (show q % 8 < 8 by omega)
        have hb8 := N.u8_nat hf2
        have hq9 : q / 8 < t.length := by rw [HTL.out]; exact hq8
        have hr2 := HR.out.flip hq9 (N.bt t (q / 8) ^^^ 2 ^ (q % 8)).toUInt8
        rw [hb8, ← hf1] at hr2
        go_roundw
        case rel => exact ⟨k + 1, t.set (q / 8) (N.bt t (q / 8) ^^^ 2 ^ (q % 8)).toUInt8, by go_num, by omega, by omega, by rw [List.length_set]; exact HTL.out, val_go HQ.out HV.out HBIT.out hq9 hb8, hr2⟩
        case measure => simp [intOf]; omega
      · have hbn : m / 2 ^ k % 2 = 0 := by omega
        have HBN := Lib.hid (C.bits_more_none hbn)
        have hby := bit_no hm hbn
        clear hbit hbn
        go_wp2
        go_roundw
        case rel => exact ⟨k + 1, t, by go_num, by omega, by omega, HTL.out, by rw [HBN.out]; exact HV.out, HR.out⟩
        case measure => simp [intOf]; omega
    · have HF := Lib.hid (C.finds (c := c) HTL.out (Nat.lt_of_le_of_lt (Nat.mod_le m (2 ^ k)) hm) (by omega) HV.out)
      have hconv := HR.out.conv cap HTL.out.symm
      have HBW := Lib.hid HR.out.below
      have htl : t.length ≤ 2000 := by rw [HTL.out]; exact hl
      clear HR HV HTL
      by_cases heq : t = l
      · subst heq
        clear HF
        by_cases hk32 : k < 32
        · have hb1 : (k : Int) < 32 := by omega
          have hb2 : 8 * (t.length : Int) ≤ (p : Int) + k := by omega
          go_wp2_with fail
          refine (chain (Update_l c t _ hc (by omega)) HBW.out).mono ?_
          rintro e w3 ⟨rfl, hb3⟩
          go_wp2_with fail
          refine (chain (Update_l c t _ hc (by omega)) hb3).mono ?_
          rintro e w4 ⟨rfl, hb4⟩
          generalize C.upd c t = x at *
          go_wp2
          go_ret
          exact ⟨rfl, hb4⟩
        · have hb1 : (32 : Int) ≤ k := by omega
          go_wp2_with fail
          refine (chain (Update_l c t _ hc (by omega)) HBW.out).mono ?_
          rintro e w3 ⟨rfl, hb3⟩
          go_wp2_with fail
          refine (chain (Update_l c t _ hc (by omega)) hb3).mono ?_
          rintro e w4 ⟨rfl, hb4⟩
          generalize C.upd c t = x at *
          go_wp2
          go_ret
          exact ⟨rfl, hb4⟩
      · have hne : ¬ C.upd c l = C.upd c t := fun h => heq (HF.out.2 h)
        have hbB : (t == l) = false := beq_eq_false_iff_ne.2 heq
        have hxy : (((C.upd c l : Nat) : Int) == ((C.upd c t : Nat) : Int)) = false := beq_eq_false_iff_ne.2 (by omega)
        clear HF heq hne
        by_cases hk32 : k < 32
        · have hb1 : (k : Int) < 32 := by omega
          have hb2 : 8 * (l.length : Int) ≤ (p : Int) + k := by omega
          go_wp2_with fail
          refine (chain (Update_l c l _ hc (by omega)) HBW.out).mono ?_
          rintro e w3 ⟨rfl, hb3⟩
          go_wp2_with fail
          refine (chain (Update_l c t _ hc (by omega)) hb3).mono ?_
          rintro e w4 ⟨rfl, hb4⟩
          generalize C.upd c t = x at *
          generalize C.upd c l = y at *
          go_wp2
          go_ret
          exact ⟨rfl, hb4⟩
        · have hb1 : (32 : Int) ≤ k := by omega
          go_wp2_with fail
          refine (chain (Update_l c l _ hc (by omega)) HBW.out).mono ?_
          rintro e w3 ⟨rfl, hb3⟩
          go_wp2_with fail
          refine (chain (Update_l c t _ hc (by omega)) hb3).mono ?_
          rintro e w4 ⟨rfl, hb4⟩
          generalize C.upd c t = x at *
          generalize C.upd c l = y at *
          go_wp2
          go_ret
          exact ⟨rfl, hb4⟩

theorem crcFinds_walk (z : Int) (hz : (Lit.int .u32 z).wf = true) (s : ByteArray) (a : Int) (_ : (Lit.int .i64 a).wf = true) (y : Int) (hy : (Lit.int .u32 y).wf = true) (w : World) :
    Calls Try.prog 5 #[.int .u32 z, .string s, .int .i64 a, .int .u32 y] w fun e w' => e = .returned (.bool true) ∧ Below w.heap.size w w' := by
  obtain ⟨c, rfl, hc⟩ := u32_nat hz
  obtain ⟨m, rfl, hm⟩ := u32_nat hy
  rw [← B_L s]
  by_cases h : 2000 < (L s).length ∨ m = 0 ∨ a < 0 ∨ 8 * ((L s).length : Int) ≤ a
  · exact crcFinds_out c m (L s) a w h
  · obtain ⟨p, rfl⟩ : ∃ p : Nat, a = p := ⟨a.toNat, by omega⟩
    exact crcFinds_in c m p (L s) w hc hm (by omega) (by omega) (by omega)

set_option maxRecDepth 100000 in
theorem crcFinds_lifted (os : Os) (started : os.Started) (H : Type) (enc : TypeId × Value → H) :
    ReturnsInHanded {} Try.checked os 5 .any (Rows.crcFindsSpec.pre6 enc Try.prog Try.f5 Rows.crcFindsRow.domain false) (Rows.crcFindsSpec.post enc Try.prog Try.f5 false true false false) := by
  refine returnsInHanded_of_change (C := Try.checked) crcFinds_own started (by kernel_rfl) Try.func5
    (ChangeSpec.witness6 (enc := enc) (C := Try.checked) false ⟨#[], #[.int .u32 0, .string ByteArray.empty, .int .i64 0, .int .u32 0], []⟩ 8 (by kernel_rfl) (by kernel_rfl) (by kernel_rfl) (by kernel_rfl)) ?_
  intro W base args ds gs before hval0 hW _ _
  have hval : ∀ (j : Nat) t v, Try.f5.params[j]? = some t → args[j]? = some v → Value.okWide Try.prog W .any base t v := hval0
  have hW' := hW
  obtain ⟨p, q, hA0, hV, rfl, hfz, hnd⟩ := hW
  have hA : DataW.TrodAll enc Try.prog W 0 (fun _ => true) true Try.f5.params.toList args.toList ds p := hA0
  rw [Try.params5] at hA hval
  obtain ⟨v0, vs0, d0, ds0, p0, q0, hargs, rfl, rfl, h0, r0⟩ := trodAll_cons hA
  obtain ⟨v1, vs1, d1, ds1, p1, q1, rfl, rfl, rfl, h1, r1⟩ := trodAll_cons r0
  obtain ⟨v2, vs2, d2, ds2, p2, q2, rfl, rfl, rfl, h2, r2⟩ := trodAll_cons r1
  obtain ⟨v3, vs3, d3, ds3, p3, q3, rfl, rfl, rfl, h3, r3⟩ := trodAll_cons r2
  obtain ⟨rfl, rfl, rfl⟩ := trodAll_nil r3
  obtain rfl : args = #[v0, v1, v2, v3] := by cases args; simp_all
  obtain ⟨rfl, rfl⟩ := trodVars_none hV
  obtain ⟨a0, rfl, rfl, rfl, w0⟩ := open_int Try.underlying22 (hval 0 22 v0 rfl rfl) h0
  obtain ⟨a1, rfl, rfl, rfl, w1⟩ := open_string Try.underlying9 (hval 1 9 v1 rfl rfl) h1
  obtain ⟨a2, rfl, rfl, rfl, w2⟩ := open_int Try.underlying3 (hval 2 3 v2 rfl rfl) h2
  obtain ⟨a3, rfl, rfl, rfl, w3⟩ := open_int Try.underlying22 (hval 3 22 v3 rfl rfl) h3
  clear hA0 hval0
  simp only [List.append_nil] at hW'
  refine (crcFinds_walk a0 w0 a1 a2 w2 a3 w3 W).mono fun e W' ⟨he, bel⟩ => ?_
  subst he
  exact ⟨_, rfl, _, _, _, [], [], [], hW', trodAll_mk1 (shut_bool Try.underlying4 _), (trodAll_cons_mk (shut_int Try.underlying22 w0) (trodAll_cons_mk (shut_string Try.underlying9 w1) (trodAll_cons_mk (shut_int Try.underlying3 w2) (trodAll_cons_mk (shut_int Try.underlying22 w3) trodAll_mk0)))), rfl, bel.frame _, fun h => by cases h⟩

theorem crcFinds_holds : Rows.CrcFindsSaid :=
  OpenClaim.holds_of_wide 5 Try.f5 rfl rfl rfl rfl rfl rfl rfl ⟨rfl, rfl, rfl, rfl, rfl⟩ rfl rfl rfl rfl rfl (by kernel_rfl) Try.func5 (by kernel_rfl)
    (of_decide_eq_true (by kernel_rfl)) (by unfold Func.isWrapper; first | (rw [if_pos (by decide +kernel)]; kernel_rfl) | (rw [if_neg (by decide +kernel)]; exact ⟨rfl, rfl⟩))
    (fun os started H enc _ => crcFinds_lifted os started H enc)
#print axioms crcFinds_holds
end Go.Proofs.Ytikghphgoklkjaa
