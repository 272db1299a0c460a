/-
  Walks of what package num takes: TakeInt, TakeText, TakeFixed.
-/
import Derived.Test.YtdmkmeohmgfpbaaNumTake
import Derived.Laws.BitsAllLaws
import Derived.IntWalk
namespace Go.Proofs.Ytdmkmeohmgfpbaa
open Go.RowKit
attribute [local go_sem] ext_Bd ext_Bl ext_Bt toList_B add_B size_B get_Bt

def tiRes (o : N.Tk) : Value :=
  match o with
  | Sum.inl (n, r) => .tuple #[.int .i64 (N.zag n), .string (B r), .int .i64 0]
  | Sum.inr e => .tuple #[.int .i64 0, .string (B []), .int .i64 e]
theorem tiRes_ok (n : Nat) (r : List UInt8) : tiRes (.ok n r) = .tuple #[.int .i64 (N.zag n), .string (B r), .int .i64 0] := rfl
theorem tiRes_bad (e : Nat) : tiRes (.bad e) = .tuple #[.int .i64 0, .string (B []), .int .i64 e] := rfl
theorem ret_tri {a a' : Value} {b b' : Value} {c c' : Value} (h1 : a = a') (h2 : b = b') (h3 : c = c') : Ending.returned (.tuple #[a, b, c]) = .returned (.tuple #[a', b', c']) := by rw [h1, h2, h3]
theorem int_eq {k : IntKind} {a b : Int} (h : a = b) : Value.int k a = .int k b := by rw [h]

theorem zag_walk {n : Nat} (hn : n ≤ 1099511627776) (h : n % 2 = 1) : wrap64 (-((n : Int) + 1).tdiv 2) = -((n : Int) + 1) / 2 := by
  rw [Int.tdiv_eq_ediv_of_nonneg (by omega), IntWalk.wrap64_in _ (by omega)]; omega

set_option maxHeartbeats 1000000 in
set_option maxRecDepth 100000 in
theorem TakeInt_l (l : List UInt8) (w : World) (hs : l.length ≤ 100000000) :
    Calls Try.prog 18 #[.string (B l)] w fun e w' => e = .returned (tiRes (N.takeL l)) ∧ sQuiet w w' := by
  rcases N.takeL_cases l with ⟨e, hT⟩ | ⟨n, r, hT⟩
  · rw [hT]
    have HT := Lib.hid hT; clear hT
    go_enter Try.func18, Try.ntmps18
    go_wp2_with fail
    refine (Take_l l w hs).mono ?_
    rintro e1 w1 ⟨rfl, hq⟩
    rw [HT.out, tkRes_bad]
    go_wp2
    go_ret3
    rw [tiRes_bad]
    exact ⟨rfl, hq⟩
  · rw [hT]
    have hn := (N.take_inv hT).2
    have HT := Lib.hid hT; clear hT
    by_cases h2 : n % 2 = 1
    · have h2b : ((n : Int) % 2 == 1) = true := by simp; omega
      have HZ := Lib.hid (show N.zag n = -((n : Int) + 1) / 2 by unfold N.zag; rw [if_pos h2])
      have H2 := Lib.hid h2; clear h2
      go_enter Try.func18, Try.ntmps18
      go_wp2_with fail
      refine (Take_l l w hs).mono ?_
      rintro e1 w1 ⟨rfl, hq⟩
      rw [HT.out, tkRes_ok]
      go_wp2
      go_ret3
      rw [tiRes_ok, HZ.out]
      exact ⟨ret_tri (int_eq (zag_walk hn H2.out)) rfl rfl, hq⟩
    · have h2b : ((n : Int) % 2 == 1) = false := by simp; omega
      have HZ := Lib.hid (show N.zag n = (n : Int) / 2 by unfold N.zag; rw [if_neg h2])
      have H2 := Lib.hid h2; clear h2
      go_enter Try.func18, Try.ntmps18
      go_wp2_with fail
      refine (Take_l l w hs).mono ?_
      rintro e1 w1 ⟨rfl, hq⟩
      rw [HT.out, tkRes_ok]
      go_wp2
      go_ret3
      rw [tiRes_ok, HZ.out]
      exact ⟨ret_tri (int_eq (by omega)) rfl rfl, hq⟩

def ttRes (o : N.Tt) : Value :=
  match o with
  | Sum.inl (t, r) => .tuple #[.string (B t), .string (B r), .int .i64 0]
  | Sum.inr e => .tuple #[.string (B []), .string (B []), .int .i64 e]
theorem ttRes_ok (t r : List UInt8) : ttRes (.ok t r) = .tuple #[.string (B t), .string (B r), .int .i64 0] := rfl
theorem ttRes_bad (e : Nat) : ttRes (.bad e) = .tuple #[.string (B []), .string (B []), .int .i64 e] := rfl
theorem quiet_trans {w w1 w2 : World} (h : sQuiet w w1) (h2 : sQuiet w1 w2) : sQuiet w w2 := by
  obtain ⟨a, rfl⟩ := h
  obtain ⟨b, rfl⟩ := h2
  exact ⟨a + b, by simp [World.drewN, Nat.add_assoc]⟩
theorem takeL_bad : ∀ (g n : Nat) (l : List UInt8) (e : Nat), N.takeG g n l = .bad e → (e = 2 ∨ e = 3 ∨ e = 4)
  | g, n, [], e, h => by rw [N.takeG_nil] at h; cases h; omega
  | 0, n, c :: r, e, h => by rw [N.takeG_out] at h; cases h; omega
  | g + 1, n, c :: r, e, h => by
    rw [N.takeG] at h
    split at h
    · exact takeL_bad g _ r e h
    · split at h
      · cases h; omega
      · split at h <;> cases h <;> omega

set_option maxHeartbeats 1000000 in
set_option maxRecDepth 100000 in
theorem TakeText_l (l : List UInt8) (most : Int) (w : World) (hs : l.length ≤ 100000000) :
    Calls Try.prog 19 #[.string (B l), .int .i64 most] w fun e w' => e = .returned (ttRes (N.takeT l most)) ∧ sQuiet w w' := by
  rcases N.takeL_cases l with ⟨e, hT⟩ | ⟨n, r, hT⟩
  · have R := Lib.hid (N.takeT_bad most hT)
    have he := takeL_bad 6 0 l e hT
    have hne : ((e : Int) != 0) = true := by simp; omega
    have HT := Lib.hid hT; clear hT
    clear he
    go_enter Try.func19, Try.ntmps19
    go_wp2_with fail
    refine (Take_l l w hs).mono ?_
    rintro e1 w1 ⟨rfl, hq⟩
    rw [HT.out, tkRes_bad]
    go_wp2
    go_ret3
    rw [R.out, ttRes_bad]
    exact ⟨rfl, hq⟩
  · have hn := (N.take_inv hT).2
    have hl2 : r.length ≤ l.length := by rw [(N.take_inv hT).1]; simp
    by_cases hm : most < n
    · have R := Lib.hid (N.takeT_long hT hm)
      have HT := Lib.hid hT; clear hT
      go_enter Try.func19, Try.ntmps19
      go_wp2_with fail
      refine (Take_l l w hs).mono ?_
      rintro e1 w1 ⟨rfl, hq⟩
      rw [HT.out, tkRes_ok]
      go_wp2
      go_ret3
      rw [R.out, ttRes_bad]
      exact ⟨rfl, hq⟩
    · by_cases hr : r.length < n
      · have R := Lib.hid (N.takeT_short hT hm hr)
        have HT := Lib.hid hT; clear hT
        go_enter Try.func19, Try.ntmps19
        go_wp2_with fail
        refine (Take_l l w hs).mono ?_
        rintro e1 w1 ⟨rfl, hq⟩
        rw [HT.out, tkRes_ok]
        go_wp2
        go_ret3
        rw [R.out, ttRes_bad]
        exact ⟨rfl, hq⟩
      · have R := Lib.hid (N.takeT_ok hT hm hr)
        have hnb : n ≤ (B r).size := by rw [size_B]; omega
        have HT := Lib.hid hT; clear hT
        go_enter Try.func19, Try.ntmps19
        go_wp2_with fail
        refine (Take_l l w hs).mono ?_
        rintro e1 w1 ⟨rfl, hq⟩
        rw [HT.out, tkRes_ok]
        go_wp2
        go_quiet (fail)
        go_wp2
        go_ret3
        rw [R.out, ttRes_ok]
        exact ⟨rfl, quiet_trans hq ⟨_, rfl⟩⟩

theorem or8 (n b : Nat) (hn : n < 16777216) (hb : b < 256) : bits .or .u32 ((n : Int) * 256) (b : Int) = ((n * 256 + b : Nat) : Int) := by
  have e : (n : Int) * 256 = ((n * 256 : Nat) : Int) := by omega
  rw [e, u32_or_nat _ _ (by omega) (by omega)]
  have := Nat.two_pow_add_eq_or_of_lt (i := 8) (b := b) (by omega) n
  rw [show n * 256 = 2 ^ 8 * n by omega, ← this]

/-- The value of the first bytes. -/
def fixP (l : List UInt8) : Nat → Nat
  | 0 => 0
  | k + 1 => fixP l k * 256 + N.bt l k
theorem fixP_lt (l : List UInt8) : ∀ k, fixP l k < 256 ^ k
  | 0 => by simp [fixP]
  | k + 1 => by
    have := fixP_lt l k
    have := N.bt_lt l k
    simp only [fixP, Nat.pow_succ]; omega
theorem fixP_four (l : List UInt8) : fixP l 4 = N.fixV l := by simp [fixP, N.fixV]

def txRes (l : List UInt8) : Value := if l.length < 4 then .tuple #[.int .u32 0, .string (B []), .int .i64 3] else .tuple #[.int .u32 (N.fixV l), .string (B (l.drop 4)), .int .i64 0]
theorem txRes_bad {l : List UInt8} (h : l.length < 4) : txRes l = .tuple #[.int .u32 0, .string (B []), .int .i64 3] := by rw [txRes, if_pos h]
theorem txRes_ok {l : List UInt8} (h : ¬ l.length < 4) : txRes l = .tuple #[.int .u32 (N.fixV l), .string (B (l.drop 4)), .int .i64 0] := by rw [txRes, if_neg h]

set_option maxHeartbeats 1000000 in
set_option maxRecDepth 100000 in
theorem TakeFixed_l (l : List UInt8) (w : World) (hs : l.length ≤ 100000000) :
    Calls Try.prog 20 #[.string (B l)] w fun e w' => e = .returned (txRes l) ∧ sQuiet w w' := by
  by_cases h4 : l.length < 4
  · have R := Lib.hid (txRes_bad h4)
    go_enter Try.func20, Try.ntmps20
    go_wp2
    go_ret3
    rw [R.out]
    exact ⟨rfl, 0, rfl⟩
  · have R := Lib.hid (txRes_ok h4)
    have hb4 : 4 ≤ (B l).size := by rw [size_B]; omega
    go_enter Try.func20, Try.ntmps20
    go_wp2
    go_loop [5, 10] (fun a i => ∃ k : Nat, a = .int .u32 (fixP l k) ∧ i = .int .i64 k ∧ k ≤ 4) (fun _ i => 4 - (intOf i).toNat)
    case atStart => exact ⟨0, rfl, rfl, by omega⟩
    case round =>
      obtain ⟨k, rfl, rfl, hk⟩ := hrel
      by_cases hk4 : k < 4
      · have hb := N.bt_lt l k
        have hkb : k < (B l).size := by omega
        have hkl : k < l.length := by omega
        have hp : fixP l k < 16777216 := by
          have h1 := fixP_lt l k
          have h2 : 256 ^ k ≤ 256 ^ 3 := Nat.pow_le_pow_right (by omega) (by omega)
          omega
        have hor := or8 (fixP l k) (N.bt l k) hp hb
        have HS := Lib.hid (show fixP l (k + 1) = fixP l k * 256 + N.bt l k from rfl)
        generalize fixP l k = p at *
        go_wp2
        go_round
        case rel => exact ⟨k + 1, by rw [HS.out]; go_num, by go_num, by omega⟩
        case measure => simp [intOf]; omega
      · obtain rfl : k = 4 := by omega
        have HF := Lib.hid (fixP_four l)
        go_wp2
        go_quiet (fail)
        go_wp2
        go_ret3
        rw [R.out, HF.out]
        exact ⟨rfl, _, rfl⟩
end Go.Proofs.Ytdmkmeohmgfpbaa
