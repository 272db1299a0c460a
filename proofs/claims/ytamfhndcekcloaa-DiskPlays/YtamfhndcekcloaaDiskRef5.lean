/-
  Walks of the document's disk (package bucketlineref8): Append to a file that is there, and of a new one.
-/
import Derived.Test.YtamfhndcekcloaaDiskRef4
namespace Go.Proofs.Ytamfhndcekcloaa.D
open Go.RowKit
attribute [local go_sem] ext_Bd ext_Bl ext_Bt toList_B add_B size_B get_Bt
variable {bs : Nat}

theorem catD {a c : Tx} (h : a.length + c.length ≤ 9000000000) (w' : World) : (Op.stringOp .add (B a) (B c)).run Try.prog w' = .ok (.string (B (a ++ c))) w' := by
  rw [run_string_add_sum w' (B a) (B c) (by rw [size_B, size_B]; omega), add_B]
section
variable (p : Nat) (room : Int) (l : List F) (n s : Tx) (w : World)
set_option maxHeartbeats 4000000 in
set_option maxRecDepth 100000 in
theorem mAppend_old (f : F) (u : Nat) (hm : MAt bs w p room l) (hs : Sorted l) (hl : l.length ≤ 1000) (hn : n.length ≤ 1000000) (hr : nameL n = true) (hf : find n l = some f) (HU : Hid (used l = u)) (hu : u ≤ 4000000000) (hsl : s.length ≤ 4000000000) (hfl : f.data.length ≤ 4000000000) (hfu : (u : Int) + (s.length : Int) ≤ room) :
    Calls Try.prog 29 #[.pointer (some ⟨p, 0, none⟩), .string (B n), .string (B s)] w fun x w' => x = .returned (.int .i64 0) ∧ MAt bs w' p room (put ⟨n, f.data ++ s, f.syn⟩ l) ∧ Kp bs p w w' := by
  obtain ⟨k, HK⟩ : ∃ k, Hid (idx n l = k) := ⟨_, Lib.hid rfl⟩
  obtain ⟨hlt, hfe⟩ : ∃ h : k < l.length, l[k] = f := by
    have := idx_of hs hf
    simp only [HK.out] at this
    exact this
  obtain ⟨hmem, hnm⟩ := find_some hf
  have HL2 : Hid (put ⟨n, f.data ++ s, f.syn⟩ l = l.set k ⟨f.name, f.data ++ s, f.syn⟩) := Lib.hid (by
    rw [hnm, put_old (f := ⟨n, f.data ++ s, f.syn⟩) hs (by rw [hf]; intro h; cases h), HK.out])
  have HI : Hid (isAt n l = true) := Lib.hid (by unfold isAt; rw [hf]; rfl)
  have HC := Lib.hid (fileCells_at hlt)
  rw [hfe] at HC
  have HSY := Lib.hid (fileCells_data hlt (f.data ++ s))
  rw [hfe] at HSY
  have HM := Lib.hid hm
  have HS := Lib.hid hs
  have HN := Lib.hid hr
  have hw : IntKind.i64.wrap ((u : Int) + (s.length : Int)) = (u : Int) + (s.length : Int) := IntWalk.i64_in _ ⟨by omega, by omega⟩
  have hfd : decide (room < (u : Int) + (s.length : Int)) = false := decide_eq_false (by omega)
  have hk1 : (k : Int) < (l.length : Int) := by omega
  have kc := catD (a := f.data) (c := s) (by omega)
  clear hm hr hs hf hmem hnm hfe
  go_enter Try.func29, Try.ntmps29
  go_wp2_with fail
  refine (refName_l n w hn).mono ?_
  rintro x w1 ⟨rfl, hb⟩
  rw [HN.out]
  have HB := Lib.hid hb
  have HM1 := Lib.hid (HM.out.below hb)
  clear hb
  go_wp2_with fail
  refine (mFind_l p room l n k true w1 HM1.out HS.out hl HK HI).mono ?_
  rintro x w2 ⟨rfl, hq⟩
  have HKP := Lib.hid ((Kp.of_below (bs := bs) (p := p) HB.out).trans (Kp.quiet hq))
  have HM2 := Lib.hid (HM1.out.quiet hq)
  have HU2 : Hid (∀ w', sQuiet w2 w' → Calls Try.prog 36 #[.pointer (some ⟨p, 0, none⟩)] w' fun x w3 => x = .returned (.int .i64 (u : Int)) ∧ sQuiet w' w3) := Lib.hid fun w' h => mUsed_l p room l u w' (HM2.out.quiet h) hl (by rw [HU.out]; exact hu) HU
  clear hq HM HM1 HB
  go_wp2
  have hS : w2.cell? ⟨p, 1, none⟩ = some (.int .i64 room) ∧ sQuiet w2 w2 := ⟨HM2.out.room, 0, rfl⟩
  go_region_held3 (fun w' => w'.cell? ⟨p, 1, none⟩ = some (.int .i64 room) ∧ sQuiet w2 w')
    (first | assumption | exact R1_drew (by assumption) | exact R1_call (by assumption) (by assumption))
    (first | (go_at_call 36; with_reducible refine (HU2.out _ (And.right (by assumption))).mono ?_; rintro x w4 ⟨rfl, hq4⟩))
  rename_i hHeld
  obtain ⟨g, cap, hwr⟩ := (HM2.out.quiet hHeld.2).wr (by omega)
  have HW4 := Lib.hid hwr
  have HK4 := Lib.hid (HKP.out.trans (Kp.quiet hHeld.2))
  clear hHeld hS hwr hq4 HM2 HKP HU2
  have c0 := HW4.out.cells.1
  have x1 : w4.cell? ⟨g, k * 3 + 1, none⟩ = some (.string (B f.data)) := (HW4.out.cell (by omega)).trans HC.out.2.1
  have f1 := HW4.out.loose (k * 3 + 1)
  go_wp2
  go_region
  all_goals (try go_wp2)
  go_ret
  rw [HL2.out]
  obtain ⟨cur, hg, -, -, -, hlo⟩ := HW4.out.blk
  exact ⟨rfl, (MWr.setRow (HW4.out.quiet ⟨_, rfl⟩) (List.length_set ..) HSY.out).at, ((HK4.out.drewN _).set_row hg hlo _ _)⟩
end
end Go.Proofs.Ytamfhndcekcloaa.D
