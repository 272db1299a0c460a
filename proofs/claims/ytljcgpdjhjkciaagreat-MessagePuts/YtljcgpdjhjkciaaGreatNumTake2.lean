/-
  Walks of what package num takes: TakeInt, TakeText, TakeFixed.
-/
import Derived.Test.YtljcgpdjhjkciaaGreatNumTake
import Derived.Laws.BitsAllLaws
import Derived.IntWalk
namespace Go.Proofs.YtljcgpdjhjkciaaGreat
open Go.RowKit
attribute [local go_sem] ext_Bd ext_Bl ext_Bt toList_B add_B size_B get_Bt

def tiRes (o : N.Tk) : Value :=
  match o with
  | Sum.inl (n, r) => .tuple #[.int .i64 (N.zag n), .string (B r), .int .i64 0]
  | Sum.inr e => .tuple #[.int .i64 0, .string (B []), .int .i64 e]
theorem tiRes_ok (n : Nat) (r : List UInt8) : tiRes (.ok n r) = .tuple #[.int .i64 (N.zag n), .string (B r), .int .i64 0] := rfl
theorem tiRes_bad (e : Nat) : tiRes (.bad e) = .tuple #[.int .i64 0, .string (B []), .int .i64 e] := rfl

theorem zag_walk {n : Nat} (hn : n ≤ 1099511627776) (h : n % 2 = 1) : wrap64 (-((n : Int) + 1).tdiv 2) = -((n : Int) + 1) / 2 := by
  rw [Int.tdiv_eq_ediv_of_nonneg (by omega), IntWalk.wrap64_in _ (by omega)]; omega

set_option maxHeartbeats 1000000 in
set_option maxRecDepth 100000 in
theorem TakeInt_l (l : List UInt8) (w : World) (hs : l.length ≤ 100000000) :
    Calls Tryz.prog 94 #[.string (B l)] w fun e w' => e = .returned (tiRes (N.takeL l)) ∧ sQuiet w w' := by
  rcases N.takeL_cases l with ⟨e, hT⟩ | ⟨n, r, hT⟩
  · rw [hT]
    have HT := Lib.hid hT; clear hT
    go_enter Tryz.func94, Tryz.ntmps94
    go_wp2_with fail
    refine (Take_l l w hs).mono ?_
    rintro e1 w1 ⟨rfl, hq⟩
    rw [HT.out, tkRes_bad]
    go_wp2
    go_ret3
    rw [tiRes_bad]
    exact ⟨rfl, hq⟩
  · rw [hT]
    have hn := (N.take_inv hT).2
    have HT := Lib.hid hT; clear hT
    by_cases h2 : n % 2 = 1
    · have h2b : ((n : Int) % 2 == 1) = true := by simp; omega
      have HZ := Lib.hid (show N.zag n = -((n : Int) + 1) / 2 by unfold N.zag; rw [if_pos h2])
      have H2 := Lib.hid h2; clear h2
      go_enter Tryz.func94, Tryz.ntmps94
      go_wp2_with fail
      refine (Take_l l w hs).mono ?_
      rintro e1 w1 ⟨rfl, hq⟩
      rw [HT.out, tkRes_ok]
      go_wp2
      go_ret3
      rw [tiRes_ok, HZ.out]
      exact ⟨ret_tri (int_eq (zag_walk hn H2.out)) rfl rfl, hq⟩
    · have h2b : ((n : Int) % 2 == 1) = false := by simp; omega
      have HZ := Lib.hid (show N.zag n = (n : Int) / 2 by unfold N.zag; rw [if_neg h2])
      have H2 := Lib.hid h2; clear h2
      go_enter Tryz.func94, Tryz.ntmps94
      go_wp2_with fail
      refine (Take_l l w hs).mono ?_
      rintro e1 w1 ⟨rfl, hq⟩
      rw [HT.out, tkRes_ok]
      go_wp2
      go_ret3
      rw [tiRes_ok, HZ.out]
      exact ⟨ret_tri (int_eq (by omega)) rfl rfl, hq⟩
def ttRes (o : N.Tt) : Value :=
  match o with
  | Sum.inl (t, r) => .tuple #[.string (B t), .string (B r), .int .i64 0]
  | Sum.inr e => .tuple #[.string (B []), .string (B []), .int .i64 e]
theorem ttRes_ok (t r : List UInt8) : ttRes (.ok t r) = .tuple #[.string (B t), .string (B r), .int .i64 0] := rfl
theorem ttRes_bad (e : Nat) : ttRes (.bad e) = .tuple #[.string (B []), .string (B []), .int .i64 e] := rfl
theorem takeL_bad : ∀ (g n : Nat) (l : List UInt8) (e : Nat), N.takeG g n l = .bad e → (e = 2 ∨ e = 3 ∨ e = 4)
  | g, n, [], e, h => by rw [N.takeG_nil] at h; cases h; omega
  | 0, n, c :: r, e, h => by rw [N.takeG_out] at h; cases h; omega
  | g + 1, n, c :: r, e, h => by
    rw [N.takeG] at h
    split at h
    · exact takeL_bad g _ r e h
    · split at h
      · cases h; omega
      · split at h <;> cases h <;> omega

set_option maxHeartbeats 1000000 in
set_option maxRecDepth 100000 in
theorem TakeText_l (l : List UInt8) (most : Int) (w : World) (hs : l.length ≤ 100000000) :
    Calls Tryz.prog 82 #[.string (B l), .int .i64 most] w fun e w' => e = .returned (ttRes (N.takeT l most)) ∧ sQuiet w w' := by
  rcases N.takeL_cases l with ⟨e, hT⟩ | ⟨n, r, hT⟩
  · have R := Lib.hid (N.takeT_bad most hT)
    have he := takeL_bad 6 0 l e hT
    have hne : ((e : Int) != 0) = true := by simp; omega
    have HT := Lib.hid hT; clear hT
    clear he
    go_enter Tryz.func82, Tryz.ntmps82
    go_wp2_with fail
    refine (Take_l l w hs).mono ?_
    rintro e1 w1 ⟨rfl, hq⟩
    rw [HT.out, tkRes_bad]
    go_wp2
    go_ret3
    rw [R.out, ttRes_bad]
    exact ⟨rfl, hq⟩
  · have hn := (N.take_inv hT).2
    have hl2 : r.length ≤ l.length := by rw [(N.take_inv hT).1]; simp
    by_cases hm : most < n
    · have R := Lib.hid (N.takeT_long hT hm)
      have HT := Lib.hid hT; clear hT
      go_enter Tryz.func82, Tryz.ntmps82
      go_wp2_with fail
      refine (Take_l l w hs).mono ?_
      rintro e1 w1 ⟨rfl, hq⟩
      rw [HT.out, tkRes_ok]
      go_wp2
      go_ret3
      rw [R.out, ttRes_bad]
      exact ⟨rfl, hq⟩
    · by_cases hr : r.length < n
      · have R := Lib.hid (N.takeT_short hT hm hr)
        have HT := Lib.hid hT; clear hT
        go_enter Tryz.func82, Tryz.ntmps82
        go_wp2_with fail
        refine (Take_l l w hs).mono ?_
        rintro e1 w1 ⟨rfl, hq⟩
        rw [HT.out, tkRes_ok]
        go_wp2
        go_ret3
        rw [R.out, ttRes_bad]
        exact ⟨rfl, hq⟩
      · have R := Lib.hid (N.takeT_ok hT hm hr)
        have hnb : n ≤ (B r).size := by rw [size_B]; omega
        have HT := Lib.hid hT; clear hT
        go_enter Tryz.func82, Tryz.ntmps82
        go_wp2_with fail
        refine (Take_l l w hs).mono ?_
        rintro e1 w1 ⟨rfl, hq⟩
        rw [HT.out, tkRes_ok]
        go_wp2
        go_quiet (fail)
        go_wp2
        go_ret3
        rw [R.out, ttRes_ok]
        exact ⟨rfl, quiet_trans hq ⟨_, rfl⟩⟩

end Go.Proofs.YtljcgpdjhjkciaaGreat
