/-
  Own texts, joined: DiskRef4 DiskRef5
-/
import Derived.Test.YtmfhipjceeijmaaGreatDoorBun14
import Derived.Test.YtmfhipjceeijmaaGreatDoorBun16
import Derived.Laws.AppendOwnNone
import Derived.IntWalk
import Derived.RangeFuncRecord

/-
  Walks of the document's disk (package bucketlineref8): New, Append.
-/
namespace Go.Proofs.YtmfhipjceeijmaaGreatDoor.D
open Go.RowKit
attribute [local go_sem] ext_Bd ext_Bl ext_Bt toList_B add_B size_B get_Bt
variable {bs : Nat}

set_option maxHeartbeats 2000000 in
set_option maxRecDepth 100000 in
theorem mNew_ok (room : Int) (w : World) (hbs : bs ≤ w.heap.size) (h1 : 1 ≤ room) (h2 : room ≤ 1073741824) :
    Calls Tryz.prog 20 #[.int .i64 room] w fun x w' => x = .returned (.tuple #[.pointer (some ⟨w.heap.size, 0, none⟩), .int .i64 0]) ∧ MAt bs w' w.heap.size room [] ∧ Below w.heap.size w w' := by
  go_enter Tryz.func20, Tryz.ntmps20
  go_wp2
  go_ret2
  exact ⟨rfl, ⟨hbs, .slice none 0 0, World.alloc_heap_new w _, rfl, .inl ⟨rfl, rfl⟩⟩, (Below.refl _ w).alloc (Nat.le_refl _) _⟩
set_option maxHeartbeats 2000000 in
set_option maxRecDepth 100000 in
theorem mNew_bad (room : Int) (w : World) (h : room < 1 ∨ 1073741824 < room) :
    Calls Tryz.prog 20 #[.int .i64 room] w fun x w' => x = .returned (.tuple #[.pointer none, .int .i64 1]) ∧ w' = w := by
  by_cases h1 : room < 1
  · go_enter Tryz.func20, Tryz.ntmps20
    go_wp2
    go_ret2
    exact ⟨rfl, rfl⟩
  · have h2 : 1073741824 < room := by omega
    go_enter Tryz.func20, Tryz.ntmps20
    go_wp2
    go_ret2
    exact ⟨rfl, rfl⟩
theorem MAt.room {w : World} {p : Nat} {room : Int} {l : List F} (h : MAt bs w p room l) : w.cell? ⟨p, 1, none⟩ = some (.int .i64 room) := by
  obtain ⟨_, v, hp, _⟩ := h
  simp [World.cell?, hp]
theorem R1_drew {w1 w : World} {a : Addr} {v : Value} (h : w.cell? a = some v ∧ sQuiet w1 w) : w.drew.cell? a = some v ∧ sQuiet w1 w.drew := ⟨h.1, quiet_trans h.2 ⟨1, rfl⟩⟩
theorem R1_call {w1 w w2 : World} {a : Addr} {v : Value} (h : w.cell? a = some v ∧ sQuiet w1 w) (hq : sQuiet w w2) : w2.cell? a = some v ∧ sQuiet w1 w2 := by
  refine ⟨?_, quiet_trans h.2 hq⟩
  obtain ⟨n, rfl⟩ := hq
  exact h.1
section
variable (p : Nat) (room : Int) (l : List F) (n s : Tx) (w : World)
set_option maxHeartbeats 2000000 in
set_option maxRecDepth 100000 in
theorem mAppend_name (hm : MAt bs w p room l) (hn : n.length ≤ 1000000) (hr : nameL n = false) :
    Calls Tryz.prog 26 #[.pointer (some ⟨p, 0, none⟩), .string (B n), .string (B s)] w fun x w' => x = .returned (.int .i64 1) ∧ MAt bs w' p room l ∧ Kp bs p w w' := by
  have HM := Lib.hid hm
  have HN := Lib.hid hr
  clear hm hr
  go_enter Tryz.func26, Tryz.ntmps26
  go_wp2_with fail
  refine (refName_l n w hn).mono ?_
  rintro x w1 ⟨rfl, hb⟩
  rw [HN.out]
  have HB := Lib.hid hb
  clear hb
  go_wp2
  go_ret
  exact ⟨rfl, HM.out.below HB.out, Kp.of_below HB.out⟩
set_option maxHeartbeats 2000000 in
set_option maxRecDepth 100000 in
theorem mAppend_long (hm : MAt bs w p room l) (hs : Sorted l) (hl : l.length ≤ 1000) (hn : n.length ≤ 1000000) (hr : nameL n = true) (hf : find n l = none) (h40 : 40 ≤ l.length) :
    Calls Tryz.prog 26 #[.pointer (some ⟨p, 0, none⟩), .string (B n), .string (B s)] w fun x w' => x = .returned (.int .i64 4) ∧ MAt bs w' p room l ∧ Kp bs p w w' := by
  have HM := Lib.hid hm
  have HS := Lib.hid hs
  have HN := Lib.hid hr
  have HI : Hid (isAt n l = false) := Lib.hid (by unfold isAt; rw [hf]; rfl)
  clear hm hr hs hf
  go_enter Tryz.func26, Tryz.ntmps26
  go_wp2_with fail
  refine (refName_l n w hn).mono ?_
  rintro x w1 ⟨rfl, hb⟩
  rw [HN.out]
  have HB := Lib.hid hb
  have HM1 := Lib.hid (HM.out.below hb)
  clear hb
  go_wp2_with fail
  refine (mFind_l p room l n _ false w1 HM1.out HS.out hl (Lib.hid rfl) HI).mono ?_
  rintro x w2 ⟨rfl, hq⟩
  obtain ⟨a, cap, hrd⟩ := (HM1.out.quiet hq).rd
  have c0 := hrd.c0
  have HKP := Lib.hid ((Kp.of_below (bs := bs) (p := p) HB.out).trans (Kp.quiet hq))
  have HM2 := Lib.hid (HM1.out.quiet hq)
  clear hrd hq
  have h40i : (40 : Int) ≤ (l.length : Int) := by omega
  go_wp2
  go_ret
  exact ⟨rfl, HM2.out, HKP.out⟩
set_option maxHeartbeats 4000000 in
set_option maxRecDepth 100000 in
theorem mAppend_full (is : Bool) (u : Nat) (hm : MAt bs w p room l) (hs : Sorted l) (hl : l.length ≤ 1000) (hn : n.length ≤ 1000000) (hr : nameL n = true) (HI : Hid (isAt n l = is)) (h40 : is = false → l.length < 40) (HU : Hid (used l = u)) (hu : u ≤ 4000000000) (hsl : s.length ≤ 4000000000) (hfu : room < (u : Int) + (s.length : Int)) :
    Calls Tryz.prog 26 #[.pointer (some ⟨p, 0, none⟩), .string (B n), .string (B s)] w fun x w' => x = .returned (.int .i64 8) ∧ MAt bs w' p room l ∧ Kp bs p w w' := by
  have HM := Lib.hid hm
  have HS := Lib.hid hs
  have HN := Lib.hid hr
  have H4 := Lib.hid h40
  have hw : IntKind.i64.wrap ((u : Int) + (s.length : Int)) = (u : Int) + (s.length : Int) := IntWalk.i64_in _ ⟨by omega, by omega⟩
  clear hm hr hs h40
  go_enter Tryz.func26, Tryz.ntmps26
  go_wp2_with fail
  refine (refName_l n w hn).mono ?_
  rintro x w1 ⟨rfl, hb⟩
  rw [HN.out]
  have HB := Lib.hid hb
  have HM1 := Lib.hid (HM.out.below hb)
  clear hb
  go_wp2_with fail
  refine (mFind_l p room l n _ is w1 HM1.out HS.out hl (Lib.hid rfl) HI).mono ?_
  rintro x w2 ⟨rfl, hq⟩
  obtain ⟨a, cap, hrd⟩ := (HM1.out.quiet hq).rd
  have HC0 := Lib.hid hrd.c0
  have HKP := Lib.hid ((Kp.of_below (bs := bs) (p := p) HB.out).trans (Kp.quiet hq))
  have HM2 := Lib.hid (HM1.out.quiet hq)
  have HU2 : Hid (∀ w', sQuiet w2 w' → Calls Tryz.prog 35 #[.pointer (some ⟨p, 0, none⟩)] w' fun x w3 => x = .returned (.int .i64 (u : Int)) ∧ sQuiet w' w3) := Lib.hid fun w' h => mUsed_l p room l u w' (HM2.out.quiet h) hl (by rw [HU.out]; exact hu) HU
  clear hrd hq HM HM1 HB
  cases is
  · have h4 := H4.out rfl
    have h40i : ¬ (40 : Int) ≤ (l.length : Int) := by omega
    have c0 := HC0.out
    go_wp2
    have hS : w2.cell? ⟨p, 1, none⟩ = some (.int .i64 room) ∧ sQuiet w2 w2 := ⟨HM2.out.room, 0, rfl⟩
    clear c0
    go_region_held3 (fun w' => w'.cell? ⟨p, 1, none⟩ = some (.int .i64 room) ∧ sQuiet w2 w')
      (first | assumption | exact R1_drew (by assumption) | exact R1_call (by assumption) (by assumption))
      (first | (go_at_call 35; with_reducible refine (HU2.out _ (And.right (by assumption))).mono ?_; rintro x w4 ⟨rfl, hq4⟩))
    rename_i hHeld
    have HQ := Lib.hid hHeld.2
    clear hHeld hS
    go_wp2
    go_ret
    exact ⟨rfl, HM2.out.quiet HQ.out, HKP.out.trans (Kp.quiet HQ.out)⟩
  · go_wp2
    have hS : w2.cell? ⟨p, 1, none⟩ = some (.int .i64 room) ∧ sQuiet w2 w2 := ⟨HM2.out.room, 0, rfl⟩
    go_region_held3 (fun w' => w'.cell? ⟨p, 1, none⟩ = some (.int .i64 room) ∧ sQuiet w2 w')
      (first | assumption | exact R1_drew (by assumption) | exact R1_call (by assumption) (by assumption))
      (first | (go_at_call 35; with_reducible refine (HU2.out _ (And.right (by assumption))).mono ?_; rintro x w4 ⟨rfl, hq4⟩))
    rename_i hHeld
    have HQ := Lib.hid hHeld.2
    clear hHeld hS
    go_wp2
    go_ret
    exact ⟨rfl, HM2.out.quiet HQ.out, HKP.out.trans (Kp.quiet HQ.out)⟩
end
end Go.Proofs.YtmfhipjceeijmaaGreatDoor.D

/-
  Walks of the document's disk (package bucketlineref8): Append to a file that is there, and of a new one.
-/
namespace Go.Proofs.YtmfhipjceeijmaaGreatDoor.D
open Go.RowKit
attribute [local go_sem] ext_Bd ext_Bl ext_Bt toList_B add_B size_B get_Bt
variable {bs : Nat}

theorem catD {a c : Tx} (h : a.length + c.length ≤ 9000000000) (w' : World) : (Op.stringOp .add (B a) (B c)).run Tryz.prog w' = .ok (.string (B (a ++ c))) w' := by
  rw [run_string_add_sum w' (B a) (B c) (by rw [size_B, size_B]; omega), add_B]
section
variable (p : Nat) (room : Int) (l : List F) (n s : Tx) (w : World)
set_option maxHeartbeats 4000000 in
set_option maxRecDepth 100000 in
theorem mAppend_old (f : F) (u : Nat) (hm : MAt bs w p room l) (hs : Sorted l) (hl : l.length ≤ 1000) (hn : n.length ≤ 1000000) (hr : nameL n = true) (hf : find n l = some f) (HU : Hid (used l = u)) (hu : u ≤ 4000000000) (hsl : s.length ≤ 4000000000) (hfl : f.data.length ≤ 4000000000) (hfu : (u : Int) + (s.length : Int) ≤ room) :
    Calls Tryz.prog 26 #[.pointer (some ⟨p, 0, none⟩), .string (B n), .string (B s)] w fun x w' => x = .returned (.int .i64 0) ∧ MAt bs w' p room (put ⟨n, f.data ++ s, f.syn⟩ l) ∧ Kp bs p w w' := by
  obtain ⟨k, HK⟩ : ∃ k, Hid (idx n l = k) := ⟨_, Lib.hid rfl⟩
  obtain ⟨hlt, hfe⟩ : ∃ h : k < l.length, l[k] = f := by
    have := idx_of hs hf
    simp only [HK.out] at this
    exact this
  obtain ⟨hmem, hnm⟩ := find_some hf
  have HL2 : Hid (put ⟨n, f.data ++ s, f.syn⟩ l = l.set k ⟨f.name, f.data ++ s, f.syn⟩) := Lib.hid (by
    rw [hnm, put_old (f := ⟨n, f.data ++ s, f.syn⟩) hs (by rw [hf]; intro h; cases h), HK.out])
  have HI : Hid (isAt n l = true) := Lib.hid (by unfold isAt; rw [hf]; rfl)
  have HC := Lib.hid (fileCells_at hlt)
  rw [hfe] at HC
  have HSY := Lib.hid (fileCells_data hlt (f.data ++ s))
  rw [hfe] at HSY
  have HM := Lib.hid hm
  have HS := Lib.hid hs
  have HN := Lib.hid hr
  have hw : IntKind.i64.wrap ((u : Int) + (s.length : Int)) = (u : Int) + (s.length : Int) := IntWalk.i64_in _ ⟨by omega, by omega⟩
  have hfd : decide (room < (u : Int) + (s.length : Int)) = false := decide_eq_false (by omega)
  have hk1 : (k : Int) < (l.length : Int) := by omega
  have kc := catD (a := f.data) (c := s) (by omega)
  clear hm hr hs hf hmem hnm hfe
  go_enter Tryz.func26, Tryz.ntmps26
  go_wp2_with fail
  refine (refName_l n w hn).mono ?_
  rintro x w1 ⟨rfl, hb⟩
  rw [HN.out]
  have HB := Lib.hid hb
  have HM1 := Lib.hid (HM.out.below hb)
  clear hb
  go_wp2_with fail
  refine (mFind_l p room l n k true w1 HM1.out HS.out hl HK HI).mono ?_
  rintro x w2 ⟨rfl, hq⟩
  have HKP := Lib.hid ((Kp.of_below (bs := bs) (p := p) HB.out).trans (Kp.quiet hq))
  have HM2 := Lib.hid (HM1.out.quiet hq)
  have HU2 : Hid (∀ w', sQuiet w2 w' → Calls Tryz.prog 35 #[.pointer (some ⟨p, 0, none⟩)] w' fun x w3 => x = .returned (.int .i64 (u : Int)) ∧ sQuiet w' w3) := Lib.hid fun w' h => mUsed_l p room l u w' (HM2.out.quiet h) hl (by rw [HU.out]; exact hu) HU
  clear hq HM HM1 HB
  go_wp2
  have hS : w2.cell? ⟨p, 1, none⟩ = some (.int .i64 room) ∧ sQuiet w2 w2 := ⟨HM2.out.room, 0, rfl⟩
  go_region_held3 (fun w' => w'.cell? ⟨p, 1, none⟩ = some (.int .i64 room) ∧ sQuiet w2 w')
    (first | assumption | exact R1_drew (by assumption) | exact R1_call (by assumption) (by assumption))
    (first | (go_at_call 35; with_reducible refine (HU2.out _ (And.right (by assumption))).mono ?_; rintro x w4 ⟨rfl, hq4⟩))
  rename_i hHeld
  obtain ⟨g, cap, hwr⟩ := (HM2.out.quiet hHeld.2).wr (by omega)
  have HW4 := Lib.hid hwr
  have HK4 := Lib.hid (HKP.out.trans (Kp.quiet hHeld.2))
  clear hHeld hS hwr hq4 HM2 HKP HU2
  have c0 := HW4.out.cells.1
  have x1 : w4.cell? ⟨g, k * 3 + 1, none⟩ = some (.string (B f.data)) := (HW4.out.cell (by omega)).trans HC.out.2.1
  have f1 := HW4.out.loose (k * 3 + 1)
  go_wp2
  go_region
  all_goals (try go_wp2)
  go_ret
  rw [HL2.out]
  obtain ⟨cur, hg, -, -, -, hlo⟩ := HW4.out.blk
  exact ⟨rfl, (MWr.setRow (HW4.out.quiet ⟨_, rfl⟩) (List.length_set ..) HSY.out).at, ((HK4.out.drewN _).set_row hg hlo _ _)⟩
end
end Go.Proofs.YtmfhipjceeijmaaGreatDoor.D
