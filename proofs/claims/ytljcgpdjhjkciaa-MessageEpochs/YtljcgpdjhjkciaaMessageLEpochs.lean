/-
  Proved: for every choice of parts the law MessageEpochs of package bucketlinelaw7 returns true, and its argument reads as before: the epoch of a message is one of its numbers, or 0; what is taken has the epoch of what was put. No condition.
-/
import Derived.Test.YtljcgpdjhjkciaaMsgMore
import Derived.Test.YtljcgpdjhjkciaaMsgSmall
import Derived.Deep.DeepCutAuto
import Derived.Deep.RegionHeld3
import Derived.ProofKit
import Derived.OpenShut
import Derived.ShutString
namespace Go.Proofs.Ytljcgpdjhjkciaa
open Go.ChangeShapes Go.WideShapes Go.ChangeAt Go.RowKit
open Go.ChangeMaps (open_string shut_string)
attribute [local go_sem] ext_Bd ext_Bl ext_Bt toList_B add_B size_B get_Bt

theorem messageEpochs_own : ownKnob Try.prog.godebug = none := by kernel_rfl
theorem messageEpochs_laid : laidOutB Try.prog = true := by kernel_rfl

/-- The cells that the last line reads, as calls leave them. -/
abbrev EK (w6 w7 : World) (g : Nat) (k a b : Int) (W : World) : Prop := W.cell? ⟨g, 0, none⟩ = some (.int .i64 k) ∧ W.cell? ⟨g, 1, none⟩ = some (.int .i64 a) ∧ W.cell? ⟨g, 2, none⟩ = some (.int .i64 b) ∧ Below w6.heap.size w6 W ∧ Below w7.heap.size w7 W
theorem EK_drew {w6 w7 W : World} {g : Nat} {k a b : Int} (h : EK w6 w7 g k a b W) : EK w6 w7 g k a b W.drew := ⟨h.1, h.2.1, h.2.2.1, Below.drew h.2.2.2.1, Below.drew h.2.2.2.2⟩
theorem EK_call {w6 w7 W W2 : World} {g : Nat} {k a b : Int} (h : EK w6 w7 g k a b W) (hb : Below W.heap.size W W2) : EK w6 w7 g k a b W2 :=
  ⟨below_keeps hb _ _ h.1, below_keeps hb _ _ h.2.1, below_keeps hb _ _ h.2.2.1, h.2.2.2.1.trans (hb.mono h.2.2.2.1.size), h.2.2.2.2.trans (hb.mono h.2.2.2.2.size)⟩
set_option maxHeartbeats 8000000 in
set_option maxRecDepth 100000 in
theorem epochs_none (d : Dr) (w : World) (hr : d.Reads w) (hm : d.msg = none) :
    Calls Try.prog 6 #[d.val] w fun r w' => r = .returned (.bool true) ∧ Below w.heap.size w w' := by
  have hnn : ∀ (W : World) (u : TypeId) (v : Value), (binOp .neq 34 (.iface u v) .nilIface).run Try.prog W = .ok (.bool true) W := fun _ _ _ => by kernel_rfl
  have hne := not_nil
  have hin := is_nil
  obtain ⟨dkind, dn0, dn1, dn2, dn3, dn4, dn5, dch, dsi, dbo, dma, den, dev, ⟨dst, dex, dse, dsq, devs⟩, dstr, dvc, dvs, dvb, dvm, dve, dvv, dvt⟩ := d
  obtain ⟨da1, db1, dc1, hq1⟩ := formI hr.ch
  obtain ⟨da2, db2, dc2, hq2⟩ := formI hr.si
  obtain ⟨da3, db3, dc3, hq3⟩ := formI hr.bo
  obtain ⟨da4, db4, dc4, hq4⟩ := formM hr.ma
  obtain ⟨da5, db5, dc5, hq5⟩ := formR hr.en
  obtain ⟨da6, db6, dc6, hq6⟩ := readsE_form hr.ev
  obtain ⟨da7, db7, dc7, hq7⟩ := readsE_form hr.bt
  dsimp only at hq1 hq2 hq3 hq4 hq5 hq6 hq7
  subst hq1 hq2 hq3 hq4 hq5 hq6 hq7
  have HRD := Lib.hid hr
  clear hr
  dsimp only [Dr.val]
  go_enter Try.func6, Try.ntmps6
  go_wp2_with fail
  refine (shown7_l _).mono ?_
  rintro x w1 ⟨rfl, hb1⟩
  have HX1 := Lib.hid (block_below (new_at (w := w) (ob := .cells #[.int .i64 dkind, .int .i64 dn0, .int .i64 dn1, .int .i64 dn2, .int .i64 dn3, .int .i64 dn4, .int .i64 dn5, .slice da1 db1 dc1, .slice da2 db2 dc2, .slice da3 db3 dc3, .slice da4 db4 dc4, .slice da5 db5 dc5, .slice da6 db6 dc6, .string (B dst), .int .i64 dex, .int .i64 dse, .int .i64 dsq, .slice da7 db7 dc7, .string (B dstr)] 30) rfl) hb1)
  have HB1 := Lib.hid (below_box hb1)
  clear hb1
  go_upto_region 2 with (fail)
  refine wp_region_lit ?_
  refine wpList_load_row rfl 30 (.tmp 1) rfl (w.heap.size) rfl 30 #[.int .i64 dkind, .int .i64 dn0, .int .i64 dn1, .int .i64 dn2, .int .i64 dn3, .int .i64 dn4, .int .i64 dn5, .slice da1 db1 dc1, .slice da2 db2 dc2, .slice da3 db3 dc3, .slice da4 db4 dc4, .slice da5 db5 dc5, .slice da6 db6 dc6, .string (B dst), .int .i64 dex, .int .i64 dse, .int .i64 dsq, .slice da7 db7 dc7, .string (B dstr)] (0, 0) _ HX1.out Try.underlying30 rfl (by kernel_rfl) ?_
  go_wp2_with fail
  refine (small7_l ⟨dkind, dn0, dn1, dn2, dn3, dn4, dn5, dch, dsi, dbo, dma, den, dev, ⟨dst, dex, dse, dsq, devs⟩, dstr, .slice da1 db1 dc1, .slice da2 db2 dc2, .slice da3 db3 dc3, .slice da4 db4 dc4, .slice da5 db5 dc5, .slice da6 db6 dc6, .slice da7 db7 dc7⟩ w1 (HRD.out.below HB1.out)).mono ?_
  rintro x w2 ⟨hok, hb2⟩
  obtain ⟨ok, rfl⟩ : ∃ ok, x = .returned (.bool ok) := by rcases hok with h | h <;> exact ⟨_, h⟩
  clear hok
  have HX2 := Lib.hid (block_below HX1.out hb2)
  have HB2 := Lib.hid (HB1.out.trans (hb2.mono HB1.out.size))
  clear hb2 HX1 HB1
  have hC : Calls Try.prog 9 #[Dr.val ⟨dkind, dn0, dn1, dn2, dn3, dn4, dn5, dch, dsi, dbo, dma, den, dev, ⟨dst, dex, dse, dsq, devs⟩, dstr, .slice da1 db1 dc1, .slice da2 db2 dc2, .slice da3 db3 dc3, .slice da4 db4 dc4, .slice da5 db5 dc5, .slice da6 db6 dc6, .slice da7 db7 dc7⟩] w2 fun x w' => x = .returned .nilIface ∧ Below w2.heap.size w2 w' := by
    rcases made_at ⟨dkind, dn0, dn1, dn2, dn3, dn4, dn5, dch, dsi, dbo, dma, den, dev, ⟨dst, dex, dse, dsq, devs⟩, dstr, .slice da1 db1 dc1, .slice da2 db2 dc2, .slice da3 db3 dc3, .slice da4 db4 dc4, .slice da5 db5 dc5, .slice da6 db6 dc6, .slice da7 db7 dc7⟩ w2 w HRD.out with ⟨m, hm2, -⟩ | ⟨-, hC⟩
    · rw [hm] at hm2; cases hm2
    · exact hC
  clear hm
  have HC9 := Lib.hid hC
  clear hC
  go_upto_region 3 with (fail)
  refine wp_region_lit ?_
  refine wpList_load_row rfl 30 (.tmp 1) rfl (w.heap.size) rfl 30 #[.int .i64 dkind, .int .i64 dn0, .int .i64 dn1, .int .i64 dn2, .int .i64 dn3, .int .i64 dn4, .int .i64 dn5, .slice da1 db1 dc1, .slice da2 db2 dc2, .slice da3 db3 dc3, .slice da4 db4 dc4, .slice da5 db5 dc5, .slice da6 db6 dc6, .string (B dst), .int .i64 dex, .int .i64 dse, .int .i64 dsq, .slice da7 db7 dc7, .string (B dstr)] (0, 0) _ HX2.out Try.underlying30 rfl (by kernel_rfl) ?_
  go_wp2_with fail
  refine HC9.out.mono ?_
  rintro x w3 ⟨rfl, hb3⟩
  have HB3 := Lib.hid (HB2.out.trans (hb3.mono HB2.out.size))
  clear hb3
  cases ok
  · go_wp2
    go_ret
    exact ⟨rfl, HB3.out⟩
  · go_wp2
    go_ret
    exact ⟨rfl, HB3.out⟩
set_option maxHeartbeats 8000000 in
set_option maxRecDepth 100000 in
theorem epochs_bad (d : Dr) (w : World) (hr : d.Reads w) (m : MV) (hm : d.msg = some m) (hrt : m.right = false) :
    Calls Try.prog 6 #[d.val] w fun r w' => r = .returned (.bool true) ∧ Below w.heap.size w w' := by
  have hnn : ∀ (W : World) (u : TypeId) (v : Value), (binOp .neq 34 (.iface u v) .nilIface).run Try.prog W = .ok (.bool true) W := fun _ _ _ => by kernel_rfl
  have hne := not_nil
  have hin := is_nil
  obtain ⟨dkind, dn0, dn1, dn2, dn3, dn4, dn5, dch, dsi, dbo, dma, den, dev, ⟨dst, dex, dse, dsq, devs⟩, dstr, dvc, dvs, dvb, dvm, dve, dvv, dvt⟩ := d
  obtain ⟨da1, db1, dc1, hq1⟩ := formI hr.ch
  obtain ⟨da2, db2, dc2, hq2⟩ := formI hr.si
  obtain ⟨da3, db3, dc3, hq3⟩ := formI hr.bo
  obtain ⟨da4, db4, dc4, hq4⟩ := formM hr.ma
  obtain ⟨da5, db5, dc5, hq5⟩ := formR hr.en
  obtain ⟨da6, db6, dc6, hq6⟩ := readsE_form hr.ev
  obtain ⟨da7, db7, dc7, hq7⟩ := readsE_form hr.bt
  dsimp only at hq1 hq2 hq3 hq4 hq5 hq6 hq7
  subst hq1 hq2 hq3 hq4 hq5 hq6 hq7
  have HRD := Lib.hid hr
  clear hr
  dsimp only [Dr.val]
  go_enter Try.func6, Try.ntmps6
  go_wp2_with fail
  refine (shown7_l _).mono ?_
  rintro x w1 ⟨rfl, hb1⟩
  have HX1 := Lib.hid (block_below (new_at (w := w) (ob := .cells #[.int .i64 dkind, .int .i64 dn0, .int .i64 dn1, .int .i64 dn2, .int .i64 dn3, .int .i64 dn4, .int .i64 dn5, .slice da1 db1 dc1, .slice da2 db2 dc2, .slice da3 db3 dc3, .slice da4 db4 dc4, .slice da5 db5 dc5, .slice da6 db6 dc6, .string (B dst), .int .i64 dex, .int .i64 dse, .int .i64 dsq, .slice da7 db7 dc7, .string (B dstr)] 30) rfl) hb1)
  have HB1 := Lib.hid (below_box hb1)
  clear hb1
  go_upto_region 2 with (fail)
  refine wp_region_lit ?_
  refine wpList_load_row rfl 30 (.tmp 1) rfl (w.heap.size) rfl 30 #[.int .i64 dkind, .int .i64 dn0, .int .i64 dn1, .int .i64 dn2, .int .i64 dn3, .int .i64 dn4, .int .i64 dn5, .slice da1 db1 dc1, .slice da2 db2 dc2, .slice da3 db3 dc3, .slice da4 db4 dc4, .slice da5 db5 dc5, .slice da6 db6 dc6, .string (B dst), .int .i64 dex, .int .i64 dse, .int .i64 dsq, .slice da7 db7 dc7, .string (B dstr)] (0, 0) _ HX1.out Try.underlying30 rfl (by kernel_rfl) ?_
  go_wp2_with fail
  refine (small7_l ⟨dkind, dn0, dn1, dn2, dn3, dn4, dn5, dch, dsi, dbo, dma, den, dev, ⟨dst, dex, dse, dsq, devs⟩, dstr, .slice da1 db1 dc1, .slice da2 db2 dc2, .slice da3 db3 dc3, .slice da4 db4 dc4, .slice da5 db5 dc5, .slice da6 db6 dc6, .slice da7 db7 dc7⟩ w1 (HRD.out.below HB1.out)).mono ?_
  rintro x w2 ⟨hok, hb2⟩
  obtain ⟨ok, rfl⟩ : ∃ ok, x = .returned (.bool ok) := by rcases hok with h | h <;> exact ⟨_, h⟩
  clear hok
  have HX2 := Lib.hid (block_below HX1.out hb2)
  have HB2 := Lib.hid (HB1.out.trans (hb2.mono HB1.out.size))
  clear hb2 HX1 HB1
  have hC : Calls Try.prog 9 #[Dr.val ⟨dkind, dn0, dn1, dn2, dn3, dn4, dn5, dch, dsi, dbo, dma, den, dev, ⟨dst, dex, dse, dsq, devs⟩, dstr, .slice da1 db1 dc1, .slice da2 db2 dc2, .slice da3 db3 dc3, .slice da4 db4 dc4, .slice da5 db5 dc5, .slice da6 db6 dc6, .slice da7 db7 dc7⟩] w2 fun x w' => x = .returned m.val ∧ Below w2.heap.size w2 w' := by
    rcases made_at ⟨dkind, dn0, dn1, dn2, dn3, dn4, dn5, dch, dsi, dbo, dma, den, dev, ⟨dst, dex, dse, dsq, devs⟩, dstr, .slice da1 db1 dc1, .slice da2 db2 dc2, .slice da3 db3 dc3, .slice da4 db4 dc4, .slice da5 db5 dc5, .slice da6 db6 dc6, .slice da7 db7 dc7⟩ w2 w HRD.out with ⟨m2, hm2, hC⟩ | ⟨hm2, -⟩
    · rw [hm] at hm2; cases hm2; exact hC
    · rw [hm] at hm2; cases hm2
  have hM := made_is HRD.out hm
  obtain ⟨u, z, kf, hv, -, -, -⟩ := kind_of m w hM.reads
  have HM := Lib.hid hM
  have HC : Hid (Calls Try.prog 9 #[Dr.val ⟨dkind, dn0, dn1, dn2, dn3, dn4, dn5, dch, dsi, dbo, dma, den, dev, ⟨dst, dex, dse, dsq, devs⟩, dstr, .slice da1 db1 dc1, .slice da2 db2 dc2, .slice da3 db3 dc3, .slice da4 db4 dc4, .slice da5 db5 dc5, .slice da6 db6 dc6, .slice da7 db7 dc7⟩] w2 fun x w' => x = .returned (.iface u z) ∧ Below w2.heap.size w2 w') := Lib.hid (by rw [← hv]; exact hC)
  have HV := Lib.hid hv
  clear hm hM hC hv
  go_upto_region 3 with (fail)
  refine wp_region_lit ?_
  refine wpList_load_row rfl 30 (.tmp 1) rfl (w.heap.size) rfl 30 #[.int .i64 dkind, .int .i64 dn0, .int .i64 dn1, .int .i64 dn2, .int .i64 dn3, .int .i64 dn4, .int .i64 dn5, .slice da1 db1 dc1, .slice da2 db2 dc2, .slice da3 db3 dc3, .slice da4 db4 dc4, .slice da5 db5 dc5, .slice da6 db6 dc6, .string (B dst), .int .i64 dex, .int .i64 dse, .int .i64 dsq, .slice da7 db7 dc7, .string (B dstr)] (0, 0) _ HX2.out Try.underlying30 rfl (by kernel_rfl) ?_
  go_wp2_with fail
  refine HC.out.mono ?_
  rintro x w3 ⟨rfl, hb3⟩
  have HX3 := Lib.hid (block_below HX2.out hb3)
  have HB3 := Lib.hid (HB2.out.trans (hb3.mono HB2.out.size))
  clear hb3 HX2 HB2 HC
  cases ok
  · go_wp2
    go_ret
    exact ⟨rfl, HB3.out⟩
  have HRT := Lib.hid hrt
  clear hrt
  obtain ⟨ep, HEP⟩ : ∃ ep, Hid ((if m.right = true then m.epoch else 0) = ep) := ⟨_, Lib.hid rfl⟩
  obtain ⟨s, HS⟩ : ∃ s, Hid (m.out = s) := ⟨_, Lib.hid rfl⟩
  have HE : Hid (∀ W, Below w.heap.size w W → Calls Try.prog 12 #[.iface u z] W fun x w' => x = .returned (.int .i64 ep) ∧ Below W.heap.size W w') := Lib.hid fun W h => by rw [← HV.out]; exact MEpoch_at m ep W (MV.reads_below HM.out.reads h) HEP
  have HP : Hid (∀ W, Below w.heap.size w W → Calls Try.prog 10 #[.iface u z] W fun x w' => x = .returned (.string (B s)) ∧ Below W.heap.size W w') := Lib.hid fun W h => by rw [← HV.out]; exact MPut_at m s W (MV.reads_below HM.out.reads h) HS
  have HR : Hid (∀ W, Below w.heap.size w W → Calls Try.prog 11 #[.iface u z] W fun x w' => x = .returned (.bool false) ∧ Below W.heap.size W w') := Lib.hid fun W h => by rw [← HV.out]; exact MRight_at m false W (MV.reads_below HM.out.reads h) HRT
  go_wp2_with fail
  refine (HE.out w3 HB3.out).mono ?_
  rintro x w4 ⟨rfl, hb4⟩
  have HX4 := Lib.hid (block_below HX3.out hb4)
  have HB4 := Lib.hid (HB3.out.trans (hb4.mono HB3.out.size))
  clear hb4 HX3 HB3 HE
  go_wp2_with fail
  refine (HP.out w4 HB4.out).mono ?_
  rintro x w5 ⟨rfl, hb5⟩
  have HX5 := Lib.hid (block_below HX4.out hb5)
  have HB5 := Lib.hid (HB4.out.trans (hb5.mono HB4.out.size))
  clear hb5 HX4 HB4 HP
  obtain rfl : s = [] := by rw [← HS.out]; unfold MV.out; rw [HRT.out]; rfl
  obtain rfl : ep = 0 := by rw [← HEP.out, HRT.out]; rfl
  go_wp2_with fail
  refine (MTake_at [] (Sum.inr 3) w5 (by decide) (Lib.hid rfl)).mono ?_
  rintro x w6 ⟨hb6, rfl⟩
  have HB6 := Lib.hid (HB5.out.trans (hb6.mono HB5.out.size))
  clear hb6
  go_wp2_with fail
  refine (HR.out w6 HB6.out).mono ?_
  rintro x w7 ⟨rfl, hb7⟩
  have HB7 := Lib.hid (HB6.out.trans (hb7.mono HB6.out.size))
  clear hb7
  go_wp2
  go_ret
  exact ⟨rfl, HB7.out⟩
set_option maxHeartbeats 8000000 in
set_option maxRecDepth 100000 in
theorem epochs_zero (d : Dr) (w : World) (hr : d.Reads w) (m : MV) (hm : d.msg = some m) (hrt : m.right = true) (hepo : m.epoch = (0 : Int)) :
    Calls Try.prog 6 #[d.val] w fun r w' => r = .returned (.bool true) ∧ Below w.heap.size w w' := by
  have hnn : ∀ (W : World) (u : TypeId) (v : Value), (binOp .neq 34 (.iface u v) .nilIface).run Try.prog W = .ok (.bool true) W := fun _ _ _ => by kernel_rfl
  have hne := not_nil
  have hin := is_nil
  obtain ⟨dkind, dn0, dn1, dn2, dn3, dn4, dn5, dch, dsi, dbo, dma, den, dev, ⟨dst, dex, dse, dsq, devs⟩, dstr, dvc, dvs, dvb, dvm, dve, dvv, dvt⟩ := d
  obtain ⟨da1, db1, dc1, hq1⟩ := formI hr.ch
  obtain ⟨da2, db2, dc2, hq2⟩ := formI hr.si
  obtain ⟨da3, db3, dc3, hq3⟩ := formI hr.bo
  obtain ⟨da4, db4, dc4, hq4⟩ := formM hr.ma
  obtain ⟨da5, db5, dc5, hq5⟩ := formR hr.en
  obtain ⟨da6, db6, dc6, hq6⟩ := readsE_form hr.ev
  obtain ⟨da7, db7, dc7, hq7⟩ := readsE_form hr.bt
  dsimp only at hq1 hq2 hq3 hq4 hq5 hq6 hq7
  subst hq1 hq2 hq3 hq4 hq5 hq6 hq7
  have HRD := Lib.hid hr
  clear hr
  dsimp only [Dr.val]
  go_enter Try.func6, Try.ntmps6
  go_wp2_with fail
  refine (shown7_l _).mono ?_
  rintro x w1 ⟨rfl, hb1⟩
  have HX1 := Lib.hid (block_below (new_at (w := w) (ob := .cells #[.int .i64 dkind, .int .i64 dn0, .int .i64 dn1, .int .i64 dn2, .int .i64 dn3, .int .i64 dn4, .int .i64 dn5, .slice da1 db1 dc1, .slice da2 db2 dc2, .slice da3 db3 dc3, .slice da4 db4 dc4, .slice da5 db5 dc5, .slice da6 db6 dc6, .string (B dst), .int .i64 dex, .int .i64 dse, .int .i64 dsq, .slice da7 db7 dc7, .string (B dstr)] 30) rfl) hb1)
  have HB1 := Lib.hid (below_box hb1)
  clear hb1
  go_upto_region 2 with (fail)
  refine wp_region_lit ?_
  refine wpList_load_row rfl 30 (.tmp 1) rfl (w.heap.size) rfl 30 #[.int .i64 dkind, .int .i64 dn0, .int .i64 dn1, .int .i64 dn2, .int .i64 dn3, .int .i64 dn4, .int .i64 dn5, .slice da1 db1 dc1, .slice da2 db2 dc2, .slice da3 db3 dc3, .slice da4 db4 dc4, .slice da5 db5 dc5, .slice da6 db6 dc6, .string (B dst), .int .i64 dex, .int .i64 dse, .int .i64 dsq, .slice da7 db7 dc7, .string (B dstr)] (0, 0) _ HX1.out Try.underlying30 rfl (by kernel_rfl) ?_
  go_wp2_with fail
  refine (small7_l ⟨dkind, dn0, dn1, dn2, dn3, dn4, dn5, dch, dsi, dbo, dma, den, dev, ⟨dst, dex, dse, dsq, devs⟩, dstr, .slice da1 db1 dc1, .slice da2 db2 dc2, .slice da3 db3 dc3, .slice da4 db4 dc4, .slice da5 db5 dc5, .slice da6 db6 dc6, .slice da7 db7 dc7⟩ w1 (HRD.out.below HB1.out)).mono ?_
  rintro x w2 ⟨hok, hb2⟩
  obtain ⟨ok, rfl⟩ : ∃ ok, x = .returned (.bool ok) := by rcases hok with h | h <;> exact ⟨_, h⟩
  clear hok
  have HX2 := Lib.hid (block_below HX1.out hb2)
  have HB2 := Lib.hid (HB1.out.trans (hb2.mono HB1.out.size))
  clear hb2 HX1 HB1
  have hC : Calls Try.prog 9 #[Dr.val ⟨dkind, dn0, dn1, dn2, dn3, dn4, dn5, dch, dsi, dbo, dma, den, dev, ⟨dst, dex, dse, dsq, devs⟩, dstr, .slice da1 db1 dc1, .slice da2 db2 dc2, .slice da3 db3 dc3, .slice da4 db4 dc4, .slice da5 db5 dc5, .slice da6 db6 dc6, .slice da7 db7 dc7⟩] w2 fun x w' => x = .returned m.val ∧ Below w2.heap.size w2 w' := by
    rcases made_at ⟨dkind, dn0, dn1, dn2, dn3, dn4, dn5, dch, dsi, dbo, dma, den, dev, ⟨dst, dex, dse, dsq, devs⟩, dstr, .slice da1 db1 dc1, .slice da2 db2 dc2, .slice da3 db3 dc3, .slice da4 db4 dc4, .slice da5 db5 dc5, .slice da6 db6 dc6, .slice da7 db7 dc7⟩ w2 w HRD.out with ⟨m2, hm2, hC⟩ | ⟨hm2, -⟩
    · rw [hm] at hm2; cases hm2; exact hC
    · rw [hm] at hm2; cases hm2
  have hM := made_is HRD.out hm
  obtain ⟨u, z, kf, hv, -, -, -⟩ := kind_of m w hM.reads
  have HM := Lib.hid hM
  have HC : Hid (Calls Try.prog 9 #[Dr.val ⟨dkind, dn0, dn1, dn2, dn3, dn4, dn5, dch, dsi, dbo, dma, den, dev, ⟨dst, dex, dse, dsq, devs⟩, dstr, .slice da1 db1 dc1, .slice da2 db2 dc2, .slice da3 db3 dc3, .slice da4 db4 dc4, .slice da5 db5 dc5, .slice da6 db6 dc6, .slice da7 db7 dc7⟩] w2 fun x w' => x = .returned (.iface u z) ∧ Below w2.heap.size w2 w') := Lib.hid (by rw [← hv]; exact hC)
  have HV := Lib.hid hv
  clear hm hM hC hv
  go_upto_region 3 with (fail)
  refine wp_region_lit ?_
  refine wpList_load_row rfl 30 (.tmp 1) rfl (w.heap.size) rfl 30 #[.int .i64 dkind, .int .i64 dn0, .int .i64 dn1, .int .i64 dn2, .int .i64 dn3, .int .i64 dn4, .int .i64 dn5, .slice da1 db1 dc1, .slice da2 db2 dc2, .slice da3 db3 dc3, .slice da4 db4 dc4, .slice da5 db5 dc5, .slice da6 db6 dc6, .string (B dst), .int .i64 dex, .int .i64 dse, .int .i64 dsq, .slice da7 db7 dc7, .string (B dstr)] (0, 0) _ HX2.out Try.underlying30 rfl (by kernel_rfl) ?_
  go_wp2_with fail
  refine HC.out.mono ?_
  rintro x w3 ⟨rfl, hb3⟩
  have HX3 := Lib.hid (block_below HX2.out hb3)
  have HB3 := Lib.hid (HB2.out.trans (hb3.mono HB2.out.size))
  clear hb3 HX2 HB2 HC
  cases ok
  · go_wp2
    go_ret
    exact ⟨rfl, HB3.out⟩
  have HRT := Lib.hid hrt
  clear hrt
  have HEP : Hid ((if m.right = true then m.epoch else 0) = 0) := Lib.hid (by rw [HRT.out, if_pos rfl]; exact hepo)
  clear hepo
  obtain ⟨s, HS⟩ : ∃ s, Hid (m.out = s) := ⟨_, Lib.hid rfl⟩
  have HE : Hid (∀ W, Below w.heap.size w W → Calls Try.prog 12 #[.iface u z] W fun x w' => x = .returned (.int .i64 0) ∧ Below W.heap.size W w') := Lib.hid fun W h => by rw [← HV.out]; exact MEpoch_at m 0 W (MV.reads_below HM.out.reads h) HEP
  have HP : Hid (∀ W, Below w.heap.size w W → Calls Try.prog 10 #[.iface u z] W fun x w' => x = .returned (.string (B s)) ∧ Below W.heap.size W w') := Lib.hid fun W h => by rw [← HV.out]; exact MPut_at m s W (MV.reads_below HM.out.reads h) HS
  have HR : Hid (∀ W, Below w.heap.size w W → Calls Try.prog 11 #[.iface u z] W fun x w' => x = .returned (.bool true) ∧ Below W.heap.size W w') := Lib.hid fun W h => by rw [← HV.out]; exact MRight_at m true W (MV.reads_below HM.out.reads h) HRT
  go_wp2_with fail
  refine (HE.out w3 HB3.out).mono ?_
  rintro x w4 ⟨rfl, hb4⟩
  have HX4 := Lib.hid (block_below HX3.out hb4)
  have HB4 := Lib.hid (HB3.out.trans (hb4.mono HB3.out.size))
  clear hb4 HX3 HB3 HE
  go_wp2_with fail
  refine (HP.out w4 HB4.out).mono ?_
  rintro x w5 ⟨rfl, hb5⟩
  have HX5 := Lib.hid (block_below HX4.out hb5)
  have HB5 := Lib.hid (HB4.out.trans (hb5.mono HB4.out.size))
  clear hb5 HX4 HB4 HP
  have hsb : s = m.bytes := by rw [← HS.out]; unfold MV.out; rw [HRT.out]; rfl
  have hsl := bytes_len m HRT.out
  have HTK := Lib.hid (show M.takeMsg s = Sum.inl ⟨m.kind, m.parts⟩ by rw [hsb]; exact take_right m HRT.out)
  rw [← hsb] at hsl
  clear hsb
  go_wp2_with fail
  refine (MTake_at s _ w5 (by omega) HTK).mono ?_
  rintro x w6 ⟨hb6, m2, rfl, hk2, hp2, hrd2⟩
  have HX6 := Lib.hid (block_below HX5.out hb6)
  have HB6 := Lib.hid (HB5.out.trans (hb6.mono HB5.out.size))
  obtain ⟨u2, z2, kf, hv2, hmeth, hcf, hkf⟩ := kind_of m2 w6 hrd2
  have HRD2 := Lib.hid hrd2
  have HE2 : Hid (∀ W, Below w6.heap.size w6 W → Calls Try.prog 12 #[.iface u2 z2] W fun x w' => x = .returned (.int .i64 0) ∧ Below W.heap.size W w') := Lib.hid fun W h => by rw [← hv2]; exact MEpoch_at m2 0 W (MV.reads_below HRD2.out h) (Lib.hid (by rw [same_right hp2, same_epoch hk2 hp2]; exact HEP.out))
  have HKF : Hid (∀ W, Calls Try.prog kf #[z2] W fun x w' => x = .returned (.int .i64 dkind) ∧ Below W.heap.size W w') := Lib.hid fun W => by
    have h := hkf W
    rw [show m2.kind = m.kind from hk2, show (m.kind : Int) = dkind from HM.out.kind] at h
    exact h
  rw [hv2]
  clear hb6 HX5 HB5 hk2 hp2 hrd2 hkf hv2 HTK
  go_wp2_with fail
  refine (HR.out w6 HB6.out).mono ?_
  rintro x w7 ⟨rfl, hb7⟩
  have HX7 := Lib.hid (block_below HX6.out hb7)
  have HB7 := Lib.hid (HB6.out.trans (hb7.mono HB6.out.size))
  have HH7 := Lib.hid hb7
  clear hb7 HX6 HB6 HR
  have q0 : w7.cell? ⟨w.heap.size, 0, none⟩ = some (.int .i64 dkind) := block_cell HX7.out 0
  have q1 : w7.cell? ⟨w.heap.size, 1, none⟩ = some (.int .i64 dn0) := block_cell HX7.out 1
  have q2 : w7.cell? ⟨w.heap.size, 2, none⟩ = some (.int .i64 dn1) := block_cell HX7.out 2
  have hK : EK w6 w7 w.heap.size dkind dn0 dn1 w7 := ⟨q0, q1, q2, HH7.out, Below.refl _ _⟩
  have HEF : Hid (∀ W, EK w6 w7 w.heap.size dkind dn0 dn1 W → Calls Try.prog 12 #[.iface u2 z2] W fun x w' => x = .returned (.int .i64 0) ∧ Below W.heap.size W w') := Lib.hid fun W h => HE2.out W h.2.2.2.1
  have HFF : Hid (∀ W, EK w6 w7 w.heap.size dkind dn0 dn1 W → Below w.heap.size w W) := Lib.hid fun W h => HB7.out.trans (h.2.2.2.2.mono HB7.out.size)
  clear HE2 q0 q1 q2 HX7 HH7 HB7 HM HEP HS HRT HRD HRD2
  have tk : (dkind == dkind) = true := beq_iff_eq.2 rfl
  go_wp2
  refine wp_region_held_drew (S := fun w' => EK w6 w7 w.heap.size dkind dn0 dn1 w') (by kernel_rfl) ?_ (fun hHeld => ?_)
  · exact EK_drew hK
  refine take_wanted (i := 0) (v := ?_) rfl (by kernel_rfl) (by kernel_rfl) (by kernel_rfl) (fun _ _ _ h => h) (by rfl) ?_ (by assumption) ?_
  rotate_left
  · intro w hSw
    (try dsimp only at hSw)
    go_simp
    (try with_reducible rfl)
  simp only [Act.put, List.setIfInBounds_toArray, List.set_cons_zero, List.set_cons_succ]
  refine take_wanted (i := 1) (v := ?_) rfl (by kernel_rfl) (by kernel_rfl) (by kernel_rfl) (fun _ _ _ h => h) (by rfl) ?_ (by assumption) ?_
  rotate_left
  · intro w hSw
    (try dsimp only at hSw)
    go_simp
    (try with_reducible rfl)
  simp only [Act.put, List.setIfInBounds_toArray, List.set_cons_zero, List.set_cons_succ]
  refine take_wanted (i := 2) (v := ?_) rfl (by kernel_rfl) (by kernel_rfl) (by kernel_rfl) (fun _ _ _ h => h) (by rfl) ?_ (by assumption) ?_
  rotate_left
  · intro w hSw
    (try dsimp only at hSw)
    go_simp
    (try with_reducible rfl)
  simp only [Act.put, List.setIfInBounds_toArray, List.set_cons_zero, List.set_cons_succ]
  refine take_passed (i := 3) rfl (by kernel_rfl) (by kernel_rfl) (by kernel_rfl) (fun _ _ _ h => h) (by rfl) (by assumption) ?_
  simp only [Act.put, List.setIfInBounds_toArray, List.set_cons_zero, List.set_cons_succ]
  refine take_passed (i := 4) rfl (by kernel_rfl) (by kernel_rfl) (by kernel_rfl) (fun _ _ _ h => h) (by rfl) (by assumption) ?_
  simp only [Act.put, List.setIfInBounds_toArray, List.set_cons_zero, List.set_cons_succ]
  refine take_passed (i := 5) rfl (by kernel_rfl) (by kernel_rfl) (by kernel_rfl) (fun _ _ _ h => h) (by rfl) (by assumption) ?_
  simp only [Act.put, List.setIfInBounds_toArray, List.set_cons_zero, List.set_cons_succ]
  refine take_passed (i := 6) rfl (by kernel_rfl) (by kernel_rfl) (by kernel_rfl) (fun _ _ _ h => h) (by rfl) (by assumption) ?_
  simp only [Act.put, List.setIfInBounds_toArray, List.set_cons_zero, List.set_cons_succ]
  refine take_passed (i := 7) rfl (by kernel_rfl) (by kernel_rfl) (by kernel_rfl) (fun _ _ _ h => h) (by rfl) (by assumption) ?_
  simp only [Act.put, List.setIfInBounds_toArray, List.set_cons_zero, List.set_cons_succ]
  refine take_wanted (i := 8) (v := ?_) rfl (by kernel_rfl) (by kernel_rfl) (by kernel_rfl) (fun _ _ _ h => h) (by rfl) ?_ (by assumption) ?_
  rotate_left
  · intro w hSw
    (try dsimp only at hSw)
    go_simp
    (try with_reducible rfl)
  simp only [Act.put, List.setIfInBounds_toArray, List.set_cons_zero, List.set_cons_succ]
  refine take_wanted (i := 9) (v := ?_) rfl (by kernel_rfl) (by kernel_rfl) (by kernel_rfl) (fun _ _ _ h => h) (by rfl) ?_ (by assumption) ?_
  rotate_left
  · intro w hSw
    (try dsimp only at hSw)
    go_simp
    (try with_reducible rfl)
  simp only [Act.put, List.setIfInBounds_toArray, List.set_cons_zero, List.set_cons_succ]
  refine take_passed (i := 10) rfl (by kernel_rfl) (by kernel_rfl) (by kernel_rfl) (fun _ _ _ h => h) (by rfl) (by assumption) ?_
  simp only [Act.put, List.setIfInBounds_toArray, List.set_cons_zero, List.set_cons_succ]
  refine take_passed (i := 11) rfl (by kernel_rfl) (by kernel_rfl) (by kernel_rfl) (fun _ _ _ h => h) (by rfl) (by assumption) ?_
  simp only [Act.put, List.setIfInBounds_toArray, List.set_cons_zero, List.set_cons_succ]
  refine take_passed (i := 12) rfl (by kernel_rfl) (by kernel_rfl) (by kernel_rfl) (fun _ _ _ h => h) (by rfl) (by assumption) ?_
  simp only [Act.put, List.setIfInBounds_toArray, List.set_cons_zero, List.set_cons_succ]
  refine take_passed (i := 13) rfl (by kernel_rfl) (by kernel_rfl) (by kernel_rfl) (fun _ _ _ h => h) (by rfl) (by assumption) ?_
  simp only [Act.put, List.setIfInBounds_toArray, List.set_cons_zero, List.set_cons_succ]
  refine take_passed (i := 14) rfl (by kernel_rfl) (by kernel_rfl) (by kernel_rfl) (fun _ _ _ h => h) (by rfl) (by assumption) ?_
  simp only [Act.put, List.setIfInBounds_toArray, List.set_cons_zero, List.set_cons_succ]
  refine take_wanted (i := 15) (v := ?_) rfl (by kernel_rfl) (by kernel_rfl) (by kernel_rfl) (fun _ _ _ h => h) (by rfl) ?_ (by assumption) ?_
  rotate_left
  · intro w hSw
    (try dsimp only at hSw)
    go_simp
    (try with_reducible rfl)
  simp only [Act.put, List.setIfInBounds_toArray, List.set_cons_zero, List.set_cons_succ]
  refine take_wanted (i := 16) (v := ?_) rfl (by kernel_rfl) (by kernel_rfl) (by kernel_rfl) (fun _ _ _ h => h) (by rfl) ?_ (by assumption) ?_
  rotate_left
  · intro w hSw
    (try dsimp only at hSw)
    go_simp
    (try with_reducible rfl)
  simp only [Act.put, List.setIfInBounds_toArray, List.set_cons_zero, List.set_cons_succ]
  refine take_wanted (i := 17) (v := ?_) rfl (by kernel_rfl) (by kernel_rfl) (by kernel_rfl) (fun _ _ _ h => h) (by rfl) ?_ (by assumption) ?_
  rotate_left
  · intro w hSw
    (try dsimp only at hSw)
    go_simp
    (try with_reducible rfl)
  simp only [Act.put, List.setIfInBounds_toArray, List.set_cons_zero, List.set_cons_succ]
  refine take_wanted (i := 18) (v := ?_) rfl (by kernel_rfl) (by kernel_rfl) (by kernel_rfl) (fun _ _ _ h => h) (by rfl) ?_ (by assumption) ?_
  rotate_left
  · intro w hSw
    (try dsimp only at hSw)
    go_simp
    (try with_reducible rfl)
  simp only [Act.put, List.setIfInBounds_toArray, List.set_cons_zero, List.set_cons_succ]
  refine take_wanted (i := 19) (v := ?_) rfl (by kernel_rfl) (by kernel_rfl) (by kernel_rfl) (fun _ _ _ h => h) (by rfl) ?_ (by assumption) ?_
  rotate_left
  · intro w hSw
    (try dsimp only at hSw)
    go_simp
    (try with_reducible rfl)
  simp only [Act.put, List.setIfInBounds_toArray, List.set_cons_zero, List.set_cons_succ]
  refine take_wanted (i := 20) (v := ?_) rfl (by kernel_rfl) (by kernel_rfl) (by kernel_rfl) (fun _ _ _ h => h) (by rfl) ?_ (by assumption) ?_
  rotate_left
  · intro w hSw
    (try dsimp only at hSw)
    go_simp
    (try with_reducible rfl)
  simp only [Act.put, List.setIfInBounds_toArray, List.set_cons_zero, List.set_cons_succ]
  refine take_wanted (i := 21) (v := ?_) rfl (by kernel_rfl) (by kernel_rfl) (by kernel_rfl) (fun _ _ _ h => h) (by rfl) ?_ (by assumption) ?_
  rotate_left
  · intro w hSw
    (try dsimp only at hSw)
    go_simp
    (try with_reducible rfl)
  simp only [Act.put, List.setIfInBounds_toArray, List.set_cons_zero, List.set_cons_succ]
  refine take_wanted (i := 23) (v := ?_) rfl (by kernel_rfl) (by kernel_rfl) (by kernel_rfl) (fun _ _ _ h => h) (by rfl) ?_ (by assumption) ?_
  rotate_left
  · intro w hSw
    (try dsimp only at hSw)
    go_simp
    (try with_reducible rfl)
  simp only [Act.put, List.setIfInBounds_toArray, List.set_cons_zero, List.set_cons_succ]
  refine take_only (i := 22) (by kernel_rfl) rfl (by rfl) (fun K hK => ?_)
  go_simp
  go_at_call 12
  refine (HEF.out _ hHeld).mono ?_
  rintro x w8 ⟨rfl, hb8⟩
  refine hK.out _ _ ?_ (fun hHeld => ?_)
  · exact EK_call hHeld hb8
  clear hK K
  refine take_wanted (i := 24) (v := ?_) rfl (by kernel_rfl) (by kernel_rfl) (by kernel_rfl) (fun _ _ _ h => h) (by rfl) ?_ (by assumption) ?_
  rotate_left
  · intro w hSw
    (try dsimp only at hSw)
    go_simp
    (try with_reducible rfl)
  simp only [Act.put, List.setIfInBounds_toArray, List.set_cons_zero, List.set_cons_succ]
  refine take_wanted (i := 25) (v := ?_) rfl (by kernel_rfl) (by kernel_rfl) (by kernel_rfl) (fun _ _ _ h => h) (by rfl) ?_ (by assumption) ?_
  rotate_left
  · intro w hSw
    (try dsimp only at hSw)
    go_simp
    (try with_reducible rfl)
  simp only [Act.put, List.setIfInBounds_toArray, List.set_cons_zero, List.set_cons_succ]
  refine take_wanted (i := 26) (v := ?_) rfl (by kernel_rfl) (by kernel_rfl) (by kernel_rfl) (fun _ _ _ h => h) (by rfl) ?_ (by assumption) ?_
  rotate_left
  · intro w hSw
    (try dsimp only at hSw)
    go_simp
    (try with_reducible rfl)
  simp only [Act.put, List.setIfInBounds_toArray, List.set_cons_zero, List.set_cons_succ]
  refine take_wanted (i := 27) (v := ?_) rfl (by kernel_rfl) (by kernel_rfl) (by kernel_rfl) (fun _ _ _ h => h) (by rfl) ?_ (by assumption) ?_
  rotate_left
  · intro w hSw
    (try dsimp only at hSw)
    go_simp
    (try with_reducible rfl)
  simp only [Act.put, List.setIfInBounds_toArray, List.set_cons_zero, List.set_cons_succ]
  refine take_wanted (i := 29) (v := ?_) rfl (by kernel_rfl) (by kernel_rfl) (by kernel_rfl) (fun _ _ _ h => h) (by rfl) ?_ (by assumption) ?_
  rotate_left
  · intro w hSw
    (try dsimp only at hSw)
    go_simp
    (try with_reducible rfl)
  simp only [Act.put, List.setIfInBounds_toArray, List.set_cons_zero, List.set_cons_succ]
  refine take_wanted (i := 30) (v := ?_) rfl (by kernel_rfl) (by kernel_rfl) (by kernel_rfl) (fun _ _ _ h => h) (by rfl) ?_ (by assumption) ?_
  rotate_left
  · intro w hSw
    (try dsimp only at hSw)
    go_simp
    (try with_reducible rfl)
  simp only [Act.put, List.setIfInBounds_toArray, List.set_cons_zero, List.set_cons_succ]
  refine take_only (i := 28) (by kernel_rfl) rfl (by rfl) (fun K hK => ?_)
  go_simp
  refine (HKF.out _).mono ?_
  rintro x w9 ⟨rfl, hb9⟩
  refine hK.out _ _ ?_ (fun hHeld => ?_)
  · exact EK_call hHeld hb9
  clear hK K
  refine take_wanted (i := 31) (v := ?_) rfl (by kernel_rfl) (by kernel_rfl) (by kernel_rfl) (fun _ _ _ h => h) (by rfl) ?_ (by assumption) ?_
  rotate_left
  · intro w hSw
    (try dsimp only at hSw)
    go_simp
    (try with_reducible rfl)
  simp only [Act.put, List.setIfInBounds_toArray, List.set_cons_zero, List.set_cons_succ]
  refine take_wanted (i := 32) (v := ?_) rfl (by kernel_rfl) (by kernel_rfl) (by kernel_rfl) (fun _ _ _ h => h) (by rfl) ?_ (by assumption) ?_
  rotate_left
  · intro w hSw
    (try dsimp only at hSw)
    go_simp
    (try with_reducible rfl)
  simp only [Act.put, List.setIfInBounds_toArray, List.set_cons_zero, List.set_cons_succ]
  refine take_wanted (i := 33) (v := ?_) rfl (by kernel_rfl) (by kernel_rfl) (by kernel_rfl) (fun _ _ _ h => h) (by rfl) ?_ (by assumption) ?_
  rotate_left
  · intro w hSw
    (try dsimp only at hSw)
    go_simp
    (try with_reducible rfl)
  simp only [Act.put, List.setIfInBounds_toArray, List.set_cons_zero, List.set_cons_succ]
  refine wpAnyH_done (by kernel_rfl) ?_ _
  have HB9 := Lib.hid (HFF.out _ hHeld)
  clear hHeld
  go_wp2
  go_ret
  exact ⟨rfl, HB9.out⟩
set_option maxHeartbeats 8000000 in
set_option maxRecDepth 100000 in
theorem epochs_first (d : Dr) (w : World) (hr : d.Reads w) (m : MV) (hm : d.msg = some m) (hrt : m.right = true) (hepo : m.epoch = d.n0) (g0 : ¬ d.n0 = 0) :
    Calls Try.prog 6 #[d.val] w fun r w' => r = .returned (.bool true) ∧ Below w.heap.size w w' := by
  have hnn : ∀ (W : World) (u : TypeId) (v : Value), (binOp .neq 34 (.iface u v) .nilIface).run Try.prog W = .ok (.bool true) W := fun _ _ _ => by kernel_rfl
  have hne := not_nil
  have hin := is_nil
  obtain ⟨dkind, dn0, dn1, dn2, dn3, dn4, dn5, dch, dsi, dbo, dma, den, dev, ⟨dst, dex, dse, dsq, devs⟩, dstr, dvc, dvs, dvb, dvm, dve, dvv, dvt⟩ := d
  obtain ⟨da1, db1, dc1, hq1⟩ := formI hr.ch
  obtain ⟨da2, db2, dc2, hq2⟩ := formI hr.si
  obtain ⟨da3, db3, dc3, hq3⟩ := formI hr.bo
  obtain ⟨da4, db4, dc4, hq4⟩ := formM hr.ma
  obtain ⟨da5, db5, dc5, hq5⟩ := formR hr.en
  obtain ⟨da6, db6, dc6, hq6⟩ := readsE_form hr.ev
  obtain ⟨da7, db7, dc7, hq7⟩ := readsE_form hr.bt
  dsimp only at hq1 hq2 hq3 hq4 hq5 hq6 hq7
  subst hq1 hq2 hq3 hq4 hq5 hq6 hq7
  have HRD := Lib.hid hr
  clear hr
  dsimp only [Dr.val]
  go_enter Try.func6, Try.ntmps6
  go_wp2_with fail
  refine (shown7_l _).mono ?_
  rintro x w1 ⟨rfl, hb1⟩
  have HX1 := Lib.hid (block_below (new_at (w := w) (ob := .cells #[.int .i64 dkind, .int .i64 dn0, .int .i64 dn1, .int .i64 dn2, .int .i64 dn3, .int .i64 dn4, .int .i64 dn5, .slice da1 db1 dc1, .slice da2 db2 dc2, .slice da3 db3 dc3, .slice da4 db4 dc4, .slice da5 db5 dc5, .slice da6 db6 dc6, .string (B dst), .int .i64 dex, .int .i64 dse, .int .i64 dsq, .slice da7 db7 dc7, .string (B dstr)] 30) rfl) hb1)
  have HB1 := Lib.hid (below_box hb1)
  clear hb1
  go_upto_region 2 with (fail)
  refine wp_region_lit ?_
  refine wpList_load_row rfl 30 (.tmp 1) rfl (w.heap.size) rfl 30 #[.int .i64 dkind, .int .i64 dn0, .int .i64 dn1, .int .i64 dn2, .int .i64 dn3, .int .i64 dn4, .int .i64 dn5, .slice da1 db1 dc1, .slice da2 db2 dc2, .slice da3 db3 dc3, .slice da4 db4 dc4, .slice da5 db5 dc5, .slice da6 db6 dc6, .string (B dst), .int .i64 dex, .int .i64 dse, .int .i64 dsq, .slice da7 db7 dc7, .string (B dstr)] (0, 0) _ HX1.out Try.underlying30 rfl (by kernel_rfl) ?_
  go_wp2_with fail
  refine (small7_l ⟨dkind, dn0, dn1, dn2, dn3, dn4, dn5, dch, dsi, dbo, dma, den, dev, ⟨dst, dex, dse, dsq, devs⟩, dstr, .slice da1 db1 dc1, .slice da2 db2 dc2, .slice da3 db3 dc3, .slice da4 db4 dc4, .slice da5 db5 dc5, .slice da6 db6 dc6, .slice da7 db7 dc7⟩ w1 (HRD.out.below HB1.out)).mono ?_
  rintro x w2 ⟨hok, hb2⟩
  obtain ⟨ok, rfl⟩ : ∃ ok, x = .returned (.bool ok) := by rcases hok with h | h <;> exact ⟨_, h⟩
  clear hok
  have HX2 := Lib.hid (block_below HX1.out hb2)
  have HB2 := Lib.hid (HB1.out.trans (hb2.mono HB1.out.size))
  clear hb2 HX1 HB1
  have hC : Calls Try.prog 9 #[Dr.val ⟨dkind, dn0, dn1, dn2, dn3, dn4, dn5, dch, dsi, dbo, dma, den, dev, ⟨dst, dex, dse, dsq, devs⟩, dstr, .slice da1 db1 dc1, .slice da2 db2 dc2, .slice da3 db3 dc3, .slice da4 db4 dc4, .slice da5 db5 dc5, .slice da6 db6 dc6, .slice da7 db7 dc7⟩] w2 fun x w' => x = .returned m.val ∧ Below w2.heap.size w2 w' := by
    rcases made_at ⟨dkind, dn0, dn1, dn2, dn3, dn4, dn5, dch, dsi, dbo, dma, den, dev, ⟨dst, dex, dse, dsq, devs⟩, dstr, .slice da1 db1 dc1, .slice da2 db2 dc2, .slice da3 db3 dc3, .slice da4 db4 dc4, .slice da5 db5 dc5, .slice da6 db6 dc6, .slice da7 db7 dc7⟩ w2 w HRD.out with ⟨m2, hm2, hC⟩ | ⟨hm2, -⟩
    · rw [hm] at hm2; cases hm2; exact hC
    · rw [hm] at hm2; cases hm2
  have hM := made_is HRD.out hm
  obtain ⟨u, z, kf, hv, -, -, -⟩ := kind_of m w hM.reads
  have HM := Lib.hid hM
  have HC : Hid (Calls Try.prog 9 #[Dr.val ⟨dkind, dn0, dn1, dn2, dn3, dn4, dn5, dch, dsi, dbo, dma, den, dev, ⟨dst, dex, dse, dsq, devs⟩, dstr, .slice da1 db1 dc1, .slice da2 db2 dc2, .slice da3 db3 dc3, .slice da4 db4 dc4, .slice da5 db5 dc5, .slice da6 db6 dc6, .slice da7 db7 dc7⟩] w2 fun x w' => x = .returned (.iface u z) ∧ Below w2.heap.size w2 w') := Lib.hid (by rw [← hv]; exact hC)
  have HV := Lib.hid hv
  clear hm hM hC hv
  go_upto_region 3 with (fail)
  refine wp_region_lit ?_
  refine wpList_load_row rfl 30 (.tmp 1) rfl (w.heap.size) rfl 30 #[.int .i64 dkind, .int .i64 dn0, .int .i64 dn1, .int .i64 dn2, .int .i64 dn3, .int .i64 dn4, .int .i64 dn5, .slice da1 db1 dc1, .slice da2 db2 dc2, .slice da3 db3 dc3, .slice da4 db4 dc4, .slice da5 db5 dc5, .slice da6 db6 dc6, .string (B dst), .int .i64 dex, .int .i64 dse, .int .i64 dsq, .slice da7 db7 dc7, .string (B dstr)] (0, 0) _ HX2.out Try.underlying30 rfl (by kernel_rfl) ?_
  go_wp2_with fail
  refine HC.out.mono ?_
  rintro x w3 ⟨rfl, hb3⟩
  have HX3 := Lib.hid (block_below HX2.out hb3)
  have HB3 := Lib.hid (HB2.out.trans (hb3.mono HB2.out.size))
  clear hb3 HX2 HB2 HC
  cases ok
  · go_wp2
    go_ret
    exact ⟨rfl, HB3.out⟩
  have HRT := Lib.hid hrt
  clear hrt
  have HEP : Hid ((if m.right = true then m.epoch else 0) = dn0) := Lib.hid (by rw [HRT.out, if_pos rfl]; exact hepo)
  clear hepo
  obtain ⟨s, HS⟩ : ∃ s, Hid (m.out = s) := ⟨_, Lib.hid rfl⟩
  have HE : Hid (∀ W, Below w.heap.size w W → Calls Try.prog 12 #[.iface u z] W fun x w' => x = .returned (.int .i64 dn0) ∧ Below W.heap.size W w') := Lib.hid fun W h => by rw [← HV.out]; exact MEpoch_at m dn0 W (MV.reads_below HM.out.reads h) HEP
  have HP : Hid (∀ W, Below w.heap.size w W → Calls Try.prog 10 #[.iface u z] W fun x w' => x = .returned (.string (B s)) ∧ Below W.heap.size W w') := Lib.hid fun W h => by rw [← HV.out]; exact MPut_at m s W (MV.reads_below HM.out.reads h) HS
  have HR : Hid (∀ W, Below w.heap.size w W → Calls Try.prog 11 #[.iface u z] W fun x w' => x = .returned (.bool true) ∧ Below W.heap.size W w') := Lib.hid fun W h => by rw [← HV.out]; exact MRight_at m true W (MV.reads_below HM.out.reads h) HRT
  go_wp2_with fail
  refine (HE.out w3 HB3.out).mono ?_
  rintro x w4 ⟨rfl, hb4⟩
  have HX4 := Lib.hid (block_below HX3.out hb4)
  have HB4 := Lib.hid (HB3.out.trans (hb4.mono HB3.out.size))
  clear hb4 HX3 HB3 HE
  go_wp2_with fail
  refine (HP.out w4 HB4.out).mono ?_
  rintro x w5 ⟨rfl, hb5⟩
  have HX5 := Lib.hid (block_below HX4.out hb5)
  have HB5 := Lib.hid (HB4.out.trans (hb5.mono HB4.out.size))
  clear hb5 HX4 HB4 HP
  have hsb : s = m.bytes := by rw [← HS.out]; unfold MV.out; rw [HRT.out]; rfl
  have hsl := bytes_len m HRT.out
  have HTK := Lib.hid (show M.takeMsg s = Sum.inl ⟨m.kind, m.parts⟩ by rw [hsb]; exact take_right m HRT.out)
  rw [← hsb] at hsl
  clear hsb
  go_wp2_with fail
  refine (MTake_at s _ w5 (by omega) HTK).mono ?_
  rintro x w6 ⟨hb6, m2, rfl, hk2, hp2, hrd2⟩
  have HX6 := Lib.hid (block_below HX5.out hb6)
  have HB6 := Lib.hid (HB5.out.trans (hb6.mono HB5.out.size))
  obtain ⟨u2, z2, kf, hv2, hmeth, hcf, hkf⟩ := kind_of m2 w6 hrd2
  have HRD2 := Lib.hid hrd2
  have HE2 : Hid (∀ W, Below w6.heap.size w6 W → Calls Try.prog 12 #[.iface u2 z2] W fun x w' => x = .returned (.int .i64 dn0) ∧ Below W.heap.size W w') := Lib.hid fun W h => by rw [← hv2]; exact MEpoch_at m2 dn0 W (MV.reads_below HRD2.out h) (Lib.hid (by rw [same_right hp2, same_epoch hk2 hp2]; exact HEP.out))
  have HKF : Hid (∀ W, Calls Try.prog kf #[z2] W fun x w' => x = .returned (.int .i64 dkind) ∧ Below W.heap.size W w') := Lib.hid fun W => by
    have h := hkf W
    rw [show m2.kind = m.kind from hk2, show (m.kind : Int) = dkind from HM.out.kind] at h
    exact h
  rw [hv2]
  clear hb6 HX5 HB5 hk2 hp2 hrd2 hkf hv2 HTK
  go_wp2_with fail
  refine (HR.out w6 HB6.out).mono ?_
  rintro x w7 ⟨rfl, hb7⟩
  have HX7 := Lib.hid (block_below HX6.out hb7)
  have HB7 := Lib.hid (HB6.out.trans (hb7.mono HB6.out.size))
  have HH7 := Lib.hid hb7
  clear hb7 HX6 HB6 HR
  have q0 : w7.cell? ⟨w.heap.size, 0, none⟩ = some (.int .i64 dkind) := block_cell HX7.out 0
  have q1 : w7.cell? ⟨w.heap.size, 1, none⟩ = some (.int .i64 dn0) := block_cell HX7.out 1
  have q2 : w7.cell? ⟨w.heap.size, 2, none⟩ = some (.int .i64 dn1) := block_cell HX7.out 2
  have hK : EK w6 w7 w.heap.size dkind dn0 dn1 w7 := ⟨q0, q1, q2, HH7.out, Below.refl _ _⟩
  have HEF : Hid (∀ W, EK w6 w7 w.heap.size dkind dn0 dn1 W → Calls Try.prog 12 #[.iface u2 z2] W fun x w' => x = .returned (.int .i64 dn0) ∧ Below W.heap.size W w') := Lib.hid fun W h => HE2.out W h.2.2.2.1
  have HFF : Hid (∀ W, EK w6 w7 w.heap.size dkind dn0 dn1 W → Below w.heap.size w W) := Lib.hid fun W h => HB7.out.trans (h.2.2.2.2.mono HB7.out.size)
  clear HE2 q0 q1 q2 HX7 HH7 HB7 HM HEP HS HRT HRD HRD2
  have tk : (dkind == dkind) = true := beq_iff_eq.2 rfl
  have g0b : (dn0 == 0) = false := beq_eq_false_iff_ne.2 g0
  go_wp2
  refine wp_region_held_drew (S := fun w' => EK w6 w7 w.heap.size dkind dn0 dn1 w') (by kernel_rfl) ?_ (fun hHeld => ?_)
  · exact EK_drew hK
  refine take_wanted (i := 0) (v := ?_) rfl (by kernel_rfl) (by kernel_rfl) (by kernel_rfl) (fun _ _ _ h => h) (by rfl) ?_ (by assumption) ?_
  rotate_left
  · intro w hSw
    (try dsimp only at hSw)
    go_simp
    (try with_reducible rfl)
  simp only [Act.put, List.setIfInBounds_toArray, List.set_cons_zero, List.set_cons_succ]
  refine take_wanted (i := 1) (v := ?_) rfl (by kernel_rfl) (by kernel_rfl) (by kernel_rfl) (fun _ _ _ h => h) (by rfl) ?_ (by assumption) ?_
  rotate_left
  · intro w hSw
    (try dsimp only at hSw)
    go_simp
    (try with_reducible rfl)
  simp only [Act.put, List.setIfInBounds_toArray, List.set_cons_zero, List.set_cons_succ]
  refine take_wanted (i := 2) (v := ?_) rfl (by kernel_rfl) (by kernel_rfl) (by kernel_rfl) (fun _ _ _ h => h) (by rfl) ?_ (by assumption) ?_
  rotate_left
  · intro w hSw
    (try dsimp only at hSw)
    go_simp
    (try with_reducible rfl)
  simp only [Act.put, List.setIfInBounds_toArray, List.set_cons_zero, List.set_cons_succ]
  refine take_wanted (i := 3) (v := ?_) rfl (by kernel_rfl) (by kernel_rfl) (by kernel_rfl) (fun _ _ _ h => h) (by rfl) ?_ (by assumption) ?_
  rotate_left
  · intro w hSw
    (try dsimp only at hSw)
    go_simp
    (try with_reducible rfl)
  simp only [Act.put, List.setIfInBounds_toArray, List.set_cons_zero, List.set_cons_succ]
  refine take_wanted (i := 4) (v := ?_) rfl (by kernel_rfl) (by kernel_rfl) (by kernel_rfl) (fun _ _ _ h => h) (by rfl) ?_ (by assumption) ?_
  rotate_left
  · intro w hSw
    (try dsimp only at hSw)
    go_simp
    (try with_reducible rfl)
  simp only [Act.put, List.setIfInBounds_toArray, List.set_cons_zero, List.set_cons_succ]
  refine take_wanted (i := 5) (v := ?_) rfl (by kernel_rfl) (by kernel_rfl) (by kernel_rfl) (fun _ _ _ h => h) (by rfl) ?_ (by assumption) ?_
  rotate_left
  · intro w hSw
    (try dsimp only at hSw)
    go_simp
    (try with_reducible rfl)
  simp only [Act.put, List.setIfInBounds_toArray, List.set_cons_zero, List.set_cons_succ]
  refine take_wanted (i := 6) (v := ?_) rfl (by kernel_rfl) (by kernel_rfl) (by kernel_rfl) (fun _ _ _ h => h) (by rfl) ?_ (by assumption) ?_
  rotate_left
  · intro w hSw
    (try dsimp only at hSw)
    go_simp
    (try with_reducible rfl)
  simp only [Act.put, List.setIfInBounds_toArray, List.set_cons_zero, List.set_cons_succ]
  refine take_wanted (i := 7) (v := ?_) rfl (by kernel_rfl) (by kernel_rfl) (by kernel_rfl) (fun _ _ _ h => h) (by rfl) ?_ (by assumption) ?_
  rotate_left
  · intro w hSw
    (try dsimp only at hSw)
    go_simp
    (try with_reducible rfl)
  simp only [Act.put, List.setIfInBounds_toArray, List.set_cons_zero, List.set_cons_succ]
  refine take_wanted (i := 8) (v := ?_) rfl (by kernel_rfl) (by kernel_rfl) (by kernel_rfl) (fun _ _ _ h => h) (by rfl) ?_ (by assumption) ?_
  rotate_left
  · intro w hSw
    (try dsimp only at hSw)
    go_simp
    (try with_reducible rfl)
  simp only [Act.put, List.setIfInBounds_toArray, List.set_cons_zero, List.set_cons_succ]
  refine take_wanted (i := 9) (v := ?_) rfl (by kernel_rfl) (by kernel_rfl) (by kernel_rfl) (fun _ _ _ h => h) (by rfl) ?_ (by assumption) ?_
  rotate_left
  · intro w hSw
    (try dsimp only at hSw)
    go_simp
    (try with_reducible rfl)
  simp only [Act.put, List.setIfInBounds_toArray, List.set_cons_zero, List.set_cons_succ]
  refine take_passed (i := 10) rfl (by kernel_rfl) (by kernel_rfl) (by kernel_rfl) (fun _ _ _ h => h) (by rfl) (by assumption) ?_
  simp only [Act.put, List.setIfInBounds_toArray, List.set_cons_zero, List.set_cons_succ]
  refine take_passed (i := 11) rfl (by kernel_rfl) (by kernel_rfl) (by kernel_rfl) (fun _ _ _ h => h) (by rfl) (by assumption) ?_
  simp only [Act.put, List.setIfInBounds_toArray, List.set_cons_zero, List.set_cons_succ]
  refine take_passed (i := 12) rfl (by kernel_rfl) (by kernel_rfl) (by kernel_rfl) (fun _ _ _ h => h) (by rfl) (by assumption) ?_
  simp only [Act.put, List.setIfInBounds_toArray, List.set_cons_zero, List.set_cons_succ]
  refine take_passed (i := 13) rfl (by kernel_rfl) (by kernel_rfl) (by kernel_rfl) (fun _ _ _ h => h) (by rfl) (by assumption) ?_
  simp only [Act.put, List.setIfInBounds_toArray, List.set_cons_zero, List.set_cons_succ]
  refine take_passed (i := 14) rfl (by kernel_rfl) (by kernel_rfl) (by kernel_rfl) (fun _ _ _ h => h) (by rfl) (by assumption) ?_
  simp only [Act.put, List.setIfInBounds_toArray, List.set_cons_zero, List.set_cons_succ]
  refine take_wanted (i := 15) (v := ?_) rfl (by kernel_rfl) (by kernel_rfl) (by kernel_rfl) (fun _ _ _ h => h) (by rfl) ?_ (by assumption) ?_
  rotate_left
  · intro w hSw
    (try dsimp only at hSw)
    go_simp
    (try with_reducible rfl)
  simp only [Act.put, List.setIfInBounds_toArray, List.set_cons_zero, List.set_cons_succ]
  refine take_wanted (i := 16) (v := ?_) rfl (by kernel_rfl) (by kernel_rfl) (by kernel_rfl) (fun _ _ _ h => h) (by rfl) ?_ (by assumption) ?_
  rotate_left
  · intro w hSw
    (try dsimp only at hSw)
    go_simp
    (try with_reducible rfl)
  simp only [Act.put, List.setIfInBounds_toArray, List.set_cons_zero, List.set_cons_succ]
  refine take_wanted (i := 17) (v := ?_) rfl (by kernel_rfl) (by kernel_rfl) (by kernel_rfl) (fun _ _ _ h => h) (by rfl) ?_ (by assumption) ?_
  rotate_left
  · intro w hSw
    (try dsimp only at hSw)
    go_simp
    (try with_reducible rfl)
  simp only [Act.put, List.setIfInBounds_toArray, List.set_cons_zero, List.set_cons_succ]
  refine take_wanted (i := 18) (v := ?_) rfl (by kernel_rfl) (by kernel_rfl) (by kernel_rfl) (fun _ _ _ h => h) (by rfl) ?_ (by assumption) ?_
  rotate_left
  · intro w hSw
    (try dsimp only at hSw)
    go_simp
    (try with_reducible rfl)
  simp only [Act.put, List.setIfInBounds_toArray, List.set_cons_zero, List.set_cons_succ]
  refine take_wanted (i := 19) (v := ?_) rfl (by kernel_rfl) (by kernel_rfl) (by kernel_rfl) (fun _ _ _ h => h) (by rfl) ?_ (by assumption) ?_
  rotate_left
  · intro w hSw
    (try dsimp only at hSw)
    go_simp
    (try with_reducible rfl)
  simp only [Act.put, List.setIfInBounds_toArray, List.set_cons_zero, List.set_cons_succ]
  refine take_wanted (i := 20) (v := ?_) rfl (by kernel_rfl) (by kernel_rfl) (by kernel_rfl) (fun _ _ _ h => h) (by rfl) ?_ (by assumption) ?_
  rotate_left
  · intro w hSw
    (try dsimp only at hSw)
    go_simp
    (try with_reducible rfl)
  simp only [Act.put, List.setIfInBounds_toArray, List.set_cons_zero, List.set_cons_succ]
  refine take_wanted (i := 21) (v := ?_) rfl (by kernel_rfl) (by kernel_rfl) (by kernel_rfl) (fun _ _ _ h => h) (by rfl) ?_ (by assumption) ?_
  rotate_left
  · intro w hSw
    (try dsimp only at hSw)
    go_simp
    (try with_reducible rfl)
  simp only [Act.put, List.setIfInBounds_toArray, List.set_cons_zero, List.set_cons_succ]
  refine take_wanted (i := 23) (v := ?_) rfl (by kernel_rfl) (by kernel_rfl) (by kernel_rfl) (fun _ _ _ h => h) (by rfl) ?_ (by assumption) ?_
  rotate_left
  · intro w hSw
    (try dsimp only at hSw)
    go_simp
    (try with_reducible rfl)
  simp only [Act.put, List.setIfInBounds_toArray, List.set_cons_zero, List.set_cons_succ]
  refine take_only (i := 22) (by kernel_rfl) rfl (by rfl) (fun K hK => ?_)
  go_simp
  go_at_call 12
  refine (HEF.out _ hHeld).mono ?_
  rintro x w8 ⟨rfl, hb8⟩
  refine hK.out _ _ ?_ (fun hHeld => ?_)
  · exact EK_call hHeld hb8
  clear hK K
  refine take_wanted (i := 24) (v := ?_) rfl (by kernel_rfl) (by kernel_rfl) (by kernel_rfl) (fun _ _ _ h => h) (by rfl) ?_ (by assumption) ?_
  rotate_left
  · intro w hSw
    (try dsimp only at hSw)
    go_simp
    (try with_reducible rfl)
  simp only [Act.put, List.setIfInBounds_toArray, List.set_cons_zero, List.set_cons_succ]
  refine take_wanted (i := 25) (v := ?_) rfl (by kernel_rfl) (by kernel_rfl) (by kernel_rfl) (fun _ _ _ h => h) (by rfl) ?_ (by assumption) ?_
  rotate_left
  · intro w hSw
    (try dsimp only at hSw)
    go_simp
    (try with_reducible rfl)
  simp only [Act.put, List.setIfInBounds_toArray, List.set_cons_zero, List.set_cons_succ]
  refine take_wanted (i := 26) (v := ?_) rfl (by kernel_rfl) (by kernel_rfl) (by kernel_rfl) (fun _ _ _ h => h) (by rfl) ?_ (by assumption) ?_
  rotate_left
  · intro w hSw
    (try dsimp only at hSw)
    go_simp
    (try with_reducible rfl)
  simp only [Act.put, List.setIfInBounds_toArray, List.set_cons_zero, List.set_cons_succ]
  refine take_wanted (i := 27) (v := ?_) rfl (by kernel_rfl) (by kernel_rfl) (by kernel_rfl) (fun _ _ _ h => h) (by rfl) ?_ (by assumption) ?_
  rotate_left
  · intro w hSw
    (try dsimp only at hSw)
    go_simp
    (try with_reducible rfl)
  simp only [Act.put, List.setIfInBounds_toArray, List.set_cons_zero, List.set_cons_succ]
  refine take_wanted (i := 29) (v := ?_) rfl (by kernel_rfl) (by kernel_rfl) (by kernel_rfl) (fun _ _ _ h => h) (by rfl) ?_ (by assumption) ?_
  rotate_left
  · intro w hSw
    (try dsimp only at hSw)
    go_simp
    (try with_reducible rfl)
  simp only [Act.put, List.setIfInBounds_toArray, List.set_cons_zero, List.set_cons_succ]
  refine take_wanted (i := 30) (v := ?_) rfl (by kernel_rfl) (by kernel_rfl) (by kernel_rfl) (fun _ _ _ h => h) (by rfl) ?_ (by assumption) ?_
  rotate_left
  · intro w hSw
    (try dsimp only at hSw)
    go_simp
    (try with_reducible rfl)
  simp only [Act.put, List.setIfInBounds_toArray, List.set_cons_zero, List.set_cons_succ]
  refine take_only (i := 28) (by kernel_rfl) rfl (by rfl) (fun K hK => ?_)
  go_simp
  refine (HKF.out _).mono ?_
  rintro x w9 ⟨rfl, hb9⟩
  refine hK.out _ _ ?_ (fun hHeld => ?_)
  · exact EK_call hHeld hb9
  clear hK K
  refine take_wanted (i := 31) (v := ?_) rfl (by kernel_rfl) (by kernel_rfl) (by kernel_rfl) (fun _ _ _ h => h) (by rfl) ?_ (by assumption) ?_
  rotate_left
  · intro w hSw
    (try dsimp only at hSw)
    go_simp
    (try with_reducible rfl)
  simp only [Act.put, List.setIfInBounds_toArray, List.set_cons_zero, List.set_cons_succ]
  refine take_wanted (i := 32) (v := ?_) rfl (by kernel_rfl) (by kernel_rfl) (by kernel_rfl) (fun _ _ _ h => h) (by rfl) ?_ (by assumption) ?_
  rotate_left
  · intro w hSw
    (try dsimp only at hSw)
    go_simp
    (try with_reducible rfl)
  simp only [Act.put, List.setIfInBounds_toArray, List.set_cons_zero, List.set_cons_succ]
  refine take_wanted (i := 33) (v := ?_) rfl (by kernel_rfl) (by kernel_rfl) (by kernel_rfl) (fun _ _ _ h => h) (by rfl) ?_ (by assumption) ?_
  rotate_left
  · intro w hSw
    (try dsimp only at hSw)
    go_simp
    (try with_reducible rfl)
  simp only [Act.put, List.setIfInBounds_toArray, List.set_cons_zero, List.set_cons_succ]
  refine wpAnyH_done (by kernel_rfl) ?_ _
  have HB9 := Lib.hid (HFF.out _ hHeld)
  clear hHeld
  go_wp2
  go_ret
  exact ⟨rfl, HB9.out⟩
set_option maxHeartbeats 8000000 in
set_option maxRecDepth 100000 in
theorem epochs_second (d : Dr) (w : World) (hr : d.Reads w) (m : MV) (hm : d.msg = some m) (hrt : m.right = true) (hepo : m.epoch = d.n1) (g0 : ¬ d.n1 = 0) (g1 : ¬ d.n1 = d.n0) :
    Calls Try.prog 6 #[d.val] w fun r w' => r = .returned (.bool true) ∧ Below w.heap.size w w' := by
  have hnn : ∀ (W : World) (u : TypeId) (v : Value), (binOp .neq 34 (.iface u v) .nilIface).run Try.prog W = .ok (.bool true) W := fun _ _ _ => by kernel_rfl
  have hne := not_nil
  have hin := is_nil
  obtain ⟨dkind, dn0, dn1, dn2, dn3, dn4, dn5, dch, dsi, dbo, dma, den, dev, ⟨dst, dex, dse, dsq, devs⟩, dstr, dvc, dvs, dvb, dvm, dve, dvv, dvt⟩ := d
  obtain ⟨da1, db1, dc1, hq1⟩ := formI hr.ch
  obtain ⟨da2, db2, dc2, hq2⟩ := formI hr.si
  obtain ⟨da3, db3, dc3, hq3⟩ := formI hr.bo
  obtain ⟨da4, db4, dc4, hq4⟩ := formM hr.ma
  obtain ⟨da5, db5, dc5, hq5⟩ := formR hr.en
  obtain ⟨da6, db6, dc6, hq6⟩ := readsE_form hr.ev
  obtain ⟨da7, db7, dc7, hq7⟩ := readsE_form hr.bt
  dsimp only at hq1 hq2 hq3 hq4 hq5 hq6 hq7
  subst hq1 hq2 hq3 hq4 hq5 hq6 hq7
  have HRD := Lib.hid hr
  clear hr
  dsimp only [Dr.val]
  go_enter Try.func6, Try.ntmps6
  go_wp2_with fail
  refine (shown7_l _).mono ?_
  rintro x w1 ⟨rfl, hb1⟩
  have HX1 := Lib.hid (block_below (new_at (w := w) (ob := .cells #[.int .i64 dkind, .int .i64 dn0, .int .i64 dn1, .int .i64 dn2, .int .i64 dn3, .int .i64 dn4, .int .i64 dn5, .slice da1 db1 dc1, .slice da2 db2 dc2, .slice da3 db3 dc3, .slice da4 db4 dc4, .slice da5 db5 dc5, .slice da6 db6 dc6, .string (B dst), .int .i64 dex, .int .i64 dse, .int .i64 dsq, .slice da7 db7 dc7, .string (B dstr)] 30) rfl) hb1)
  have HB1 := Lib.hid (below_box hb1)
  clear hb1
  go_upto_region 2 with (fail)
  refine wp_region_lit ?_
  refine wpList_load_row rfl 30 (.tmp 1) rfl (w.heap.size) rfl 30 #[.int .i64 dkind, .int .i64 dn0, .int .i64 dn1, .int .i64 dn2, .int .i64 dn3, .int .i64 dn4, .int .i64 dn5, .slice da1 db1 dc1, .slice da2 db2 dc2, .slice da3 db3 dc3, .slice da4 db4 dc4, .slice da5 db5 dc5, .slice da6 db6 dc6, .string (B dst), .int .i64 dex, .int .i64 dse, .int .i64 dsq, .slice da7 db7 dc7, .string (B dstr)] (0, 0) _ HX1.out Try.underlying30 rfl (by kernel_rfl) ?_
  go_wp2_with fail
  refine (small7_l ⟨dkind, dn0, dn1, dn2, dn3, dn4, dn5, dch, dsi, dbo, dma, den, dev, ⟨dst, dex, dse, dsq, devs⟩, dstr, .slice da1 db1 dc1, .slice da2 db2 dc2, .slice da3 db3 dc3, .slice da4 db4 dc4, .slice da5 db5 dc5, .slice da6 db6 dc6, .slice da7 db7 dc7⟩ w1 (HRD.out.below HB1.out)).mono ?_
  rintro x w2 ⟨hok, hb2⟩
  obtain ⟨ok, rfl⟩ : ∃ ok, x = .returned (.bool ok) := by rcases hok with h | h <;> exact ⟨_, h⟩
  clear hok
  have HX2 := Lib.hid (block_below HX1.out hb2)
  have HB2 := Lib.hid (HB1.out.trans (hb2.mono HB1.out.size))
  clear hb2 HX1 HB1
  have hC : Calls Try.prog 9 #[Dr.val ⟨dkind, dn0, dn1, dn2, dn3, dn4, dn5, dch, dsi, dbo, dma, den, dev, ⟨dst, dex, dse, dsq, devs⟩, dstr, .slice da1 db1 dc1, .slice da2 db2 dc2, .slice da3 db3 dc3, .slice da4 db4 dc4, .slice da5 db5 dc5, .slice da6 db6 dc6, .slice da7 db7 dc7⟩] w2 fun x w' => x = .returned m.val ∧ Below w2.heap.size w2 w' := by
    rcases made_at ⟨dkind, dn0, dn1, dn2, dn3, dn4, dn5, dch, dsi, dbo, dma, den, dev, ⟨dst, dex, dse, dsq, devs⟩, dstr, .slice da1 db1 dc1, .slice da2 db2 dc2, .slice da3 db3 dc3, .slice da4 db4 dc4, .slice da5 db5 dc5, .slice da6 db6 dc6, .slice da7 db7 dc7⟩ w2 w HRD.out with ⟨m2, hm2, hC⟩ | ⟨hm2, -⟩
    · rw [hm] at hm2; cases hm2; exact hC
    · rw [hm] at hm2; cases hm2
  have hM := made_is HRD.out hm
  obtain ⟨u, z, kf, hv, -, -, -⟩ := kind_of m w hM.reads
  have HM := Lib.hid hM
  have HC : Hid (Calls Try.prog 9 #[Dr.val ⟨dkind, dn0, dn1, dn2, dn3, dn4, dn5, dch, dsi, dbo, dma, den, dev, ⟨dst, dex, dse, dsq, devs⟩, dstr, .slice da1 db1 dc1, .slice da2 db2 dc2, .slice da3 db3 dc3, .slice da4 db4 dc4, .slice da5 db5 dc5, .slice da6 db6 dc6, .slice da7 db7 dc7⟩] w2 fun x w' => x = .returned (.iface u z) ∧ Below w2.heap.size w2 w') := Lib.hid (by rw [← hv]; exact hC)
  have HV := Lib.hid hv
  clear hm hM hC hv
  go_upto_region 3 with (fail)
  refine wp_region_lit ?_
  refine wpList_load_row rfl 30 (.tmp 1) rfl (w.heap.size) rfl 30 #[.int .i64 dkind, .int .i64 dn0, .int .i64 dn1, .int .i64 dn2, .int .i64 dn3, .int .i64 dn4, .int .i64 dn5, .slice da1 db1 dc1, .slice da2 db2 dc2, .slice da3 db3 dc3, .slice da4 db4 dc4, .slice da5 db5 dc5, .slice da6 db6 dc6, .string (B dst), .int .i64 dex, .int .i64 dse, .int .i64 dsq, .slice da7 db7 dc7, .string (B dstr)] (0, 0) _ HX2.out Try.underlying30 rfl (by kernel_rfl) ?_
  go_wp2_with fail
  refine HC.out.mono ?_
  rintro x w3 ⟨rfl, hb3⟩
  have HX3 := Lib.hid (block_below HX2.out hb3)
  have HB3 := Lib.hid (HB2.out.trans (hb3.mono HB2.out.size))
  clear hb3 HX2 HB2 HC
  cases ok
  · go_wp2
    go_ret
    exact ⟨rfl, HB3.out⟩
  have HRT := Lib.hid hrt
  clear hrt
  have HEP : Hid ((if m.right = true then m.epoch else 0) = dn1) := Lib.hid (by rw [HRT.out, if_pos rfl]; exact hepo)
  clear hepo
  obtain ⟨s, HS⟩ : ∃ s, Hid (m.out = s) := ⟨_, Lib.hid rfl⟩
  have HE : Hid (∀ W, Below w.heap.size w W → Calls Try.prog 12 #[.iface u z] W fun x w' => x = .returned (.int .i64 dn1) ∧ Below W.heap.size W w') := Lib.hid fun W h => by rw [← HV.out]; exact MEpoch_at m dn1 W (MV.reads_below HM.out.reads h) HEP
  have HP : Hid (∀ W, Below w.heap.size w W → Calls Try.prog 10 #[.iface u z] W fun x w' => x = .returned (.string (B s)) ∧ Below W.heap.size W w') := Lib.hid fun W h => by rw [← HV.out]; exact MPut_at m s W (MV.reads_below HM.out.reads h) HS
  have HR : Hid (∀ W, Below w.heap.size w W → Calls Try.prog 11 #[.iface u z] W fun x w' => x = .returned (.bool true) ∧ Below W.heap.size W w') := Lib.hid fun W h => by rw [← HV.out]; exact MRight_at m true W (MV.reads_below HM.out.reads h) HRT
  go_wp2_with fail
  refine (HE.out w3 HB3.out).mono ?_
  rintro x w4 ⟨rfl, hb4⟩
  have HX4 := Lib.hid (block_below HX3.out hb4)
  have HB4 := Lib.hid (HB3.out.trans (hb4.mono HB3.out.size))
  clear hb4 HX3 HB3 HE
  go_wp2_with fail
  refine (HP.out w4 HB4.out).mono ?_
  rintro x w5 ⟨rfl, hb5⟩
  have HX5 := Lib.hid (block_below HX4.out hb5)
  have HB5 := Lib.hid (HB4.out.trans (hb5.mono HB4.out.size))
  clear hb5 HX4 HB4 HP
  have hsb : s = m.bytes := by rw [← HS.out]; unfold MV.out; rw [HRT.out]; rfl
  have hsl := bytes_len m HRT.out
  have HTK := Lib.hid (show M.takeMsg s = Sum.inl ⟨m.kind, m.parts⟩ by rw [hsb]; exact take_right m HRT.out)
  rw [← hsb] at hsl
  clear hsb
  go_wp2_with fail
  refine (MTake_at s _ w5 (by omega) HTK).mono ?_
  rintro x w6 ⟨hb6, m2, rfl, hk2, hp2, hrd2⟩
  have HX6 := Lib.hid (block_below HX5.out hb6)
  have HB6 := Lib.hid (HB5.out.trans (hb6.mono HB5.out.size))
  obtain ⟨u2, z2, kf, hv2, hmeth, hcf, hkf⟩ := kind_of m2 w6 hrd2
  have HRD2 := Lib.hid hrd2
  have HE2 : Hid (∀ W, Below w6.heap.size w6 W → Calls Try.prog 12 #[.iface u2 z2] W fun x w' => x = .returned (.int .i64 dn1) ∧ Below W.heap.size W w') := Lib.hid fun W h => by rw [← hv2]; exact MEpoch_at m2 dn1 W (MV.reads_below HRD2.out h) (Lib.hid (by rw [same_right hp2, same_epoch hk2 hp2]; exact HEP.out))
  have HKF : Hid (∀ W, Calls Try.prog kf #[z2] W fun x w' => x = .returned (.int .i64 dkind) ∧ Below W.heap.size W w') := Lib.hid fun W => by
    have h := hkf W
    rw [show m2.kind = m.kind from hk2, show (m.kind : Int) = dkind from HM.out.kind] at h
    exact h
  rw [hv2]
  clear hb6 HX5 HB5 hk2 hp2 hrd2 hkf hv2 HTK
  go_wp2_with fail
  refine (HR.out w6 HB6.out).mono ?_
  rintro x w7 ⟨rfl, hb7⟩
  have HX7 := Lib.hid (block_below HX6.out hb7)
  have HB7 := Lib.hid (HB6.out.trans (hb7.mono HB6.out.size))
  have HH7 := Lib.hid hb7
  clear hb7 HX6 HB6 HR
  have q0 : w7.cell? ⟨w.heap.size, 0, none⟩ = some (.int .i64 dkind) := block_cell HX7.out 0
  have q1 : w7.cell? ⟨w.heap.size, 1, none⟩ = some (.int .i64 dn0) := block_cell HX7.out 1
  have q2 : w7.cell? ⟨w.heap.size, 2, none⟩ = some (.int .i64 dn1) := block_cell HX7.out 2
  have hK : EK w6 w7 w.heap.size dkind dn0 dn1 w7 := ⟨q0, q1, q2, HH7.out, Below.refl _ _⟩
  have HEF : Hid (∀ W, EK w6 w7 w.heap.size dkind dn0 dn1 W → Calls Try.prog 12 #[.iface u2 z2] W fun x w' => x = .returned (.int .i64 dn1) ∧ Below W.heap.size W w') := Lib.hid fun W h => HE2.out W h.2.2.2.1
  have HFF : Hid (∀ W, EK w6 w7 w.heap.size dkind dn0 dn1 W → Below w.heap.size w W) := Lib.hid fun W h => HB7.out.trans (h.2.2.2.2.mono HB7.out.size)
  clear HE2 q0 q1 q2 HX7 HH7 HB7 HM HEP HS HRT HRD HRD2
  have tk : (dkind == dkind) = true := beq_iff_eq.2 rfl
  have g0b : (dn1 == 0) = false := beq_eq_false_iff_ne.2 g0
  have g1b : (dn1 == dn0) = false := beq_eq_false_iff_ne.2 g1
  go_wp2
  refine wp_region_held_drew (S := fun w' => EK w6 w7 w.heap.size dkind dn0 dn1 w') (by kernel_rfl) ?_ (fun hHeld => ?_)
  · exact EK_drew hK
  refine take_wanted (i := 0) (v := ?_) rfl (by kernel_rfl) (by kernel_rfl) (by kernel_rfl) (fun _ _ _ h => h) (by rfl) ?_ (by assumption) ?_
  rotate_left
  · intro w hSw
    (try dsimp only at hSw)
    go_simp
    (try with_reducible rfl)
  simp only [Act.put, List.setIfInBounds_toArray, List.set_cons_zero, List.set_cons_succ]
  refine take_wanted (i := 1) (v := ?_) rfl (by kernel_rfl) (by kernel_rfl) (by kernel_rfl) (fun _ _ _ h => h) (by rfl) ?_ (by assumption) ?_
  rotate_left
  · intro w hSw
    (try dsimp only at hSw)
    go_simp
    (try with_reducible rfl)
  simp only [Act.put, List.setIfInBounds_toArray, List.set_cons_zero, List.set_cons_succ]
  refine take_wanted (i := 2) (v := ?_) rfl (by kernel_rfl) (by kernel_rfl) (by kernel_rfl) (fun _ _ _ h => h) (by rfl) ?_ (by assumption) ?_
  rotate_left
  · intro w hSw
    (try dsimp only at hSw)
    go_simp
    (try with_reducible rfl)
  simp only [Act.put, List.setIfInBounds_toArray, List.set_cons_zero, List.set_cons_succ]
  refine take_wanted (i := 3) (v := ?_) rfl (by kernel_rfl) (by kernel_rfl) (by kernel_rfl) (fun _ _ _ h => h) (by rfl) ?_ (by assumption) ?_
  rotate_left
  · intro w hSw
    (try dsimp only at hSw)
    go_simp
    (try with_reducible rfl)
  simp only [Act.put, List.setIfInBounds_toArray, List.set_cons_zero, List.set_cons_succ]
  refine take_wanted (i := 4) (v := ?_) rfl (by kernel_rfl) (by kernel_rfl) (by kernel_rfl) (fun _ _ _ h => h) (by rfl) ?_ (by assumption) ?_
  rotate_left
  · intro w hSw
    (try dsimp only at hSw)
    go_simp
    (try with_reducible rfl)
  simp only [Act.put, List.setIfInBounds_toArray, List.set_cons_zero, List.set_cons_succ]
  refine take_wanted (i := 5) (v := ?_) rfl (by kernel_rfl) (by kernel_rfl) (by kernel_rfl) (fun _ _ _ h => h) (by rfl) ?_ (by assumption) ?_
  rotate_left
  · intro w hSw
    (try dsimp only at hSw)
    go_simp
    (try with_reducible rfl)
  simp only [Act.put, List.setIfInBounds_toArray, List.set_cons_zero, List.set_cons_succ]
  refine take_wanted (i := 6) (v := ?_) rfl (by kernel_rfl) (by kernel_rfl) (by kernel_rfl) (fun _ _ _ h => h) (by rfl) ?_ (by assumption) ?_
  rotate_left
  · intro w hSw
    (try dsimp only at hSw)
    go_simp
    (try with_reducible rfl)
  simp only [Act.put, List.setIfInBounds_toArray, List.set_cons_zero, List.set_cons_succ]
  refine take_wanted (i := 7) (v := ?_) rfl (by kernel_rfl) (by kernel_rfl) (by kernel_rfl) (fun _ _ _ h => h) (by rfl) ?_ (by assumption) ?_
  rotate_left
  · intro w hSw
    (try dsimp only at hSw)
    go_simp
    (try with_reducible rfl)
  simp only [Act.put, List.setIfInBounds_toArray, List.set_cons_zero, List.set_cons_succ]
  refine take_wanted (i := 8) (v := ?_) rfl (by kernel_rfl) (by kernel_rfl) (by kernel_rfl) (fun _ _ _ h => h) (by rfl) ?_ (by assumption) ?_
  rotate_left
  · intro w hSw
    (try dsimp only at hSw)
    go_simp
    (try with_reducible rfl)
  simp only [Act.put, List.setIfInBounds_toArray, List.set_cons_zero, List.set_cons_succ]
  refine take_wanted (i := 9) (v := ?_) rfl (by kernel_rfl) (by kernel_rfl) (by kernel_rfl) (fun _ _ _ h => h) (by rfl) ?_ (by assumption) ?_
  rotate_left
  · intro w hSw
    (try dsimp only at hSw)
    go_simp
    (try with_reducible rfl)
  simp only [Act.put, List.setIfInBounds_toArray, List.set_cons_zero, List.set_cons_succ]
  refine take_wanted (i := 10) (v := ?_) rfl (by kernel_rfl) (by kernel_rfl) (by kernel_rfl) (fun _ _ _ h => h) (by rfl) ?_ (by assumption) ?_
  rotate_left
  · intro w hSw
    (try dsimp only at hSw)
    go_simp
    (try with_reducible rfl)
  simp only [Act.put, List.setIfInBounds_toArray, List.set_cons_zero, List.set_cons_succ]
  refine take_wanted (i := 11) (v := ?_) rfl (by kernel_rfl) (by kernel_rfl) (by kernel_rfl) (fun _ _ _ h => h) (by rfl) ?_ (by assumption) ?_
  rotate_left
  · intro w hSw
    (try dsimp only at hSw)
    go_simp
    (try with_reducible rfl)
  simp only [Act.put, List.setIfInBounds_toArray, List.set_cons_zero, List.set_cons_succ]
  refine take_wanted (i := 12) (v := ?_) rfl (by kernel_rfl) (by kernel_rfl) (by kernel_rfl) (fun _ _ _ h => h) (by rfl) ?_ (by assumption) ?_
  rotate_left
  · intro w hSw
    (try dsimp only at hSw)
    go_simp
    (try with_reducible rfl)
  simp only [Act.put, List.setIfInBounds_toArray, List.set_cons_zero, List.set_cons_succ]
  refine take_wanted (i := 13) (v := ?_) rfl (by kernel_rfl) (by kernel_rfl) (by kernel_rfl) (fun _ _ _ h => h) (by rfl) ?_ (by assumption) ?_
  rotate_left
  · intro w hSw
    (try dsimp only at hSw)
    go_simp
    (try with_reducible rfl)
  simp only [Act.put, List.setIfInBounds_toArray, List.set_cons_zero, List.set_cons_succ]
  refine take_wanted (i := 14) (v := ?_) rfl (by kernel_rfl) (by kernel_rfl) (by kernel_rfl) (fun _ _ _ h => h) (by rfl) ?_ (by assumption) ?_
  rotate_left
  · intro w hSw
    (try dsimp only at hSw)
    go_simp
    (try with_reducible rfl)
  simp only [Act.put, List.setIfInBounds_toArray, List.set_cons_zero, List.set_cons_succ]
  refine take_wanted (i := 15) (v := ?_) rfl (by kernel_rfl) (by kernel_rfl) (by kernel_rfl) (fun _ _ _ h => h) (by rfl) ?_ (by assumption) ?_
  rotate_left
  · intro w hSw
    (try dsimp only at hSw)
    go_simp
    (try with_reducible rfl)
  simp only [Act.put, List.setIfInBounds_toArray, List.set_cons_zero, List.set_cons_succ]
  refine take_wanted (i := 16) (v := ?_) rfl (by kernel_rfl) (by kernel_rfl) (by kernel_rfl) (fun _ _ _ h => h) (by rfl) ?_ (by assumption) ?_
  rotate_left
  · intro w hSw
    (try dsimp only at hSw)
    go_simp
    (try with_reducible rfl)
  simp only [Act.put, List.setIfInBounds_toArray, List.set_cons_zero, List.set_cons_succ]
  refine take_wanted (i := 17) (v := ?_) rfl (by kernel_rfl) (by kernel_rfl) (by kernel_rfl) (fun _ _ _ h => h) (by rfl) ?_ (by assumption) ?_
  rotate_left
  · intro w hSw
    (try dsimp only at hSw)
    go_simp
    (try with_reducible rfl)
  simp only [Act.put, List.setIfInBounds_toArray, List.set_cons_zero, List.set_cons_succ]
  refine take_wanted (i := 18) (v := ?_) rfl (by kernel_rfl) (by kernel_rfl) (by kernel_rfl) (fun _ _ _ h => h) (by rfl) ?_ (by assumption) ?_
  rotate_left
  · intro w hSw
    (try dsimp only at hSw)
    go_simp
    (try with_reducible rfl)
  simp only [Act.put, List.setIfInBounds_toArray, List.set_cons_zero, List.set_cons_succ]
  refine take_wanted (i := 19) (v := ?_) rfl (by kernel_rfl) (by kernel_rfl) (by kernel_rfl) (fun _ _ _ h => h) (by rfl) ?_ (by assumption) ?_
  rotate_left
  · intro w hSw
    (try dsimp only at hSw)
    go_simp
    (try with_reducible rfl)
  simp only [Act.put, List.setIfInBounds_toArray, List.set_cons_zero, List.set_cons_succ]
  refine take_wanted (i := 20) (v := ?_) rfl (by kernel_rfl) (by kernel_rfl) (by kernel_rfl) (fun _ _ _ h => h) (by rfl) ?_ (by assumption) ?_
  rotate_left
  · intro w hSw
    (try dsimp only at hSw)
    go_simp
    (try with_reducible rfl)
  simp only [Act.put, List.setIfInBounds_toArray, List.set_cons_zero, List.set_cons_succ]
  refine take_wanted (i := 21) (v := ?_) rfl (by kernel_rfl) (by kernel_rfl) (by kernel_rfl) (fun _ _ _ h => h) (by rfl) ?_ (by assumption) ?_
  rotate_left
  · intro w hSw
    (try dsimp only at hSw)
    go_simp
    (try with_reducible rfl)
  simp only [Act.put, List.setIfInBounds_toArray, List.set_cons_zero, List.set_cons_succ]
  refine take_wanted (i := 23) (v := ?_) rfl (by kernel_rfl) (by kernel_rfl) (by kernel_rfl) (fun _ _ _ h => h) (by rfl) ?_ (by assumption) ?_
  rotate_left
  · intro w hSw
    (try dsimp only at hSw)
    go_simp
    (try with_reducible rfl)
  simp only [Act.put, List.setIfInBounds_toArray, List.set_cons_zero, List.set_cons_succ]
  refine take_only (i := 22) (by kernel_rfl) rfl (by rfl) (fun K hK => ?_)
  go_simp
  go_at_call 12
  refine (HEF.out _ hHeld).mono ?_
  rintro x w8 ⟨rfl, hb8⟩
  refine hK.out _ _ ?_ (fun hHeld => ?_)
  · exact EK_call hHeld hb8
  clear hK K
  refine take_wanted (i := 24) (v := ?_) rfl (by kernel_rfl) (by kernel_rfl) (by kernel_rfl) (fun _ _ _ h => h) (by rfl) ?_ (by assumption) ?_
  rotate_left
  · intro w hSw
    (try dsimp only at hSw)
    go_simp
    (try with_reducible rfl)
  simp only [Act.put, List.setIfInBounds_toArray, List.set_cons_zero, List.set_cons_succ]
  refine take_wanted (i := 25) (v := ?_) rfl (by kernel_rfl) (by kernel_rfl) (by kernel_rfl) (fun _ _ _ h => h) (by rfl) ?_ (by assumption) ?_
  rotate_left
  · intro w hSw
    (try dsimp only at hSw)
    go_simp
    (try with_reducible rfl)
  simp only [Act.put, List.setIfInBounds_toArray, List.set_cons_zero, List.set_cons_succ]
  refine take_wanted (i := 26) (v := ?_) rfl (by kernel_rfl) (by kernel_rfl) (by kernel_rfl) (fun _ _ _ h => h) (by rfl) ?_ (by assumption) ?_
  rotate_left
  · intro w hSw
    (try dsimp only at hSw)
    go_simp
    (try with_reducible rfl)
  simp only [Act.put, List.setIfInBounds_toArray, List.set_cons_zero, List.set_cons_succ]
  refine take_wanted (i := 27) (v := ?_) rfl (by kernel_rfl) (by kernel_rfl) (by kernel_rfl) (fun _ _ _ h => h) (by rfl) ?_ (by assumption) ?_
  rotate_left
  · intro w hSw
    (try dsimp only at hSw)
    go_simp
    (try with_reducible rfl)
  simp only [Act.put, List.setIfInBounds_toArray, List.set_cons_zero, List.set_cons_succ]
  refine take_wanted (i := 29) (v := ?_) rfl (by kernel_rfl) (by kernel_rfl) (by kernel_rfl) (fun _ _ _ h => h) (by rfl) ?_ (by assumption) ?_
  rotate_left
  · intro w hSw
    (try dsimp only at hSw)
    go_simp
    (try with_reducible rfl)
  simp only [Act.put, List.setIfInBounds_toArray, List.set_cons_zero, List.set_cons_succ]
  refine take_wanted (i := 30) (v := ?_) rfl (by kernel_rfl) (by kernel_rfl) (by kernel_rfl) (fun _ _ _ h => h) (by rfl) ?_ (by assumption) ?_
  rotate_left
  · intro w hSw
    (try dsimp only at hSw)
    go_simp
    (try with_reducible rfl)
  simp only [Act.put, List.setIfInBounds_toArray, List.set_cons_zero, List.set_cons_succ]
  refine take_only (i := 28) (by kernel_rfl) rfl (by rfl) (fun K hK => ?_)
  go_simp
  refine (HKF.out _).mono ?_
  rintro x w9 ⟨rfl, hb9⟩
  refine hK.out _ _ ?_ (fun hHeld => ?_)
  · exact EK_call hHeld hb9
  clear hK K
  refine take_wanted (i := 31) (v := ?_) rfl (by kernel_rfl) (by kernel_rfl) (by kernel_rfl) (fun _ _ _ h => h) (by rfl) ?_ (by assumption) ?_
  rotate_left
  · intro w hSw
    (try dsimp only at hSw)
    go_simp
    (try with_reducible rfl)
  simp only [Act.put, List.setIfInBounds_toArray, List.set_cons_zero, List.set_cons_succ]
  refine take_wanted (i := 32) (v := ?_) rfl (by kernel_rfl) (by kernel_rfl) (by kernel_rfl) (fun _ _ _ h => h) (by rfl) ?_ (by assumption) ?_
  rotate_left
  · intro w hSw
    (try dsimp only at hSw)
    go_simp
    (try with_reducible rfl)
  simp only [Act.put, List.setIfInBounds_toArray, List.set_cons_zero, List.set_cons_succ]
  refine take_wanted (i := 33) (v := ?_) rfl (by kernel_rfl) (by kernel_rfl) (by kernel_rfl) (fun _ _ _ h => h) (by rfl) ?_ (by assumption) ?_
  rotate_left
  · intro w hSw
    (try dsimp only at hSw)
    go_simp
    (try with_reducible rfl)
  simp only [Act.put, List.setIfInBounds_toArray, List.set_cons_zero, List.set_cons_succ]
  refine wpAnyH_done (by kernel_rfl) ?_ _
  have HB9 := Lib.hid (HFF.out _ hHeld)
  clear hHeld
  go_wp2
  go_ret
  exact ⟨rfl, HB9.out⟩
theorem messageEpochs_walk (d : Dr) (w : World) (hr : d.Reads w) :
    Calls Try.prog 6 #[d.val] w fun r w' => r = .returned (.bool true) ∧ Below w.heap.size w w' := by
  cases hm : d.msg with
  | none => exact epochs_none d w hr hm
  | some m =>
    cases hrt : m.right with
    | false => exact epochs_bad d w hr m hm hrt
    | true =>
      have he := (made_is hr hm).epoch
      by_cases h0 : m.epoch = 0
      · exact epochs_zero d w hr m hm hrt h0
      by_cases h1 : m.epoch = d.n0
      · exact epochs_first d w hr m hm hrt h1 (fun h => h0 (h1.trans h))
      have h2 : m.epoch = d.n1 := by
        rcases he with h | h | h
        · exact absurd h h0
        · exact absurd h h1
        · exact h
      exact epochs_second d w hr m hm hrt h2 (fun h => h0 (h2.trans h)) (fun h => h1 (h2.trans h))

set_option maxRecDepth 100000 in
theorem messageEpochs_lifted (os : Os) (started : os.Started) (H : Type) (enc : TypeId × Value → H) :
    ReturnsInHanded {} Try.checked os 6 .any (Rows.messageEpochsSpec.pre6 enc Try.prog Try.f6 Rows.messageEpochsRow.domain false) (Rows.messageEpochsSpec.post enc Try.prog Try.f6 false true false false) := by
  refine returnsInHanded_of_change (C := Try.checked) messageEpochs_own started (by kernel_rfl) Try.func6
    (ChangeSpec.witness6 (enc := enc) (C := Try.checked) false ⟨#[], #[.agg #[.int .i64 0, .int .i64 0, .int .i64 0, .int .i64 0, .int .i64 0, .int .i64 0, .int .i64 0, .slice none 0 0, .slice none 0 0, .slice none 0 0, .slice none 0 0, .slice none 0 0, .slice none 0 0, .string ByteArray.empty, .int .i64 0, .int .i64 0, .int .i64 0, .slice none 0 0, .string ByteArray.empty]], []⟩ 8 (by kernel_rfl) (by kernel_rfl) (by kernel_rfl) (by kernel_rfl)) ?_
  intro W base args ds gs before hval0 hW _ _
  have hval : ∀ (j : Nat) t v, Try.f6.params[j]? = some t → args[j]? = some v → Value.okWide Try.prog W .any base t v := hval0
  have hW' := hW
  obtain ⟨p, q, hA0, hV, rfl, hfz, hnd⟩ := hW
  have hA : DataW.TrodAll enc Try.prog W 0 (fun _ => true) true Try.f6.params.toList args.toList ds p := hA0
  rw [Try.params6] at hA hval
  obtain ⟨v0, vs0, d0, ds0, p0, q0, hargs, rfl, rfl, h0, r0⟩ := trodAll_cons hA
  obtain ⟨rfl, rfl, rfl⟩ := trodAll_nil r0
  obtain rfl : args = #[v0] := by cases args; simp_all
  obtain ⟨rfl, rfl⟩ := trodVars_none hV
  have k0 := h0
  have lt0 : ∀ x ∈ p0, x.block < W.heap.size := by obtain ⟨m, hm⟩ := k0; exact DataW.trod_lt m _ _ _ hm
  obtain ⟨dr0, rfl, w0⟩ := arg_draw (hval 0 30 v0 rfl rfl) h0
  clear hA0 hval0
  refine (messageEpochs_walk dr0 W w0).mono fun e W' ⟨he, bel⟩ => ?_
  subst he
  exact ⟨_, rfl, _, _, _, [], _, [], hW', trodAll_mk1 (shut_bool Try.underlying4 _), (trodAll_cons_mk (Below.trod messageEpochs_laid (by kernel_rfl) (of_decide_eq_true (by kernel_rfl)) k0 bel lt0) trodAll_mk0), rfl, bel.frame _, fun h => by cases h⟩

theorem messageEpochs_holds : Rows.MessageEpochsSaid :=
  OpenClaim.holds_of_wide 6 Try.f6 rfl rfl rfl rfl rfl rfl rfl ⟨rfl, rfl, rfl, rfl, rfl⟩ rfl rfl rfl rfl rfl (by kernel_rfl) Try.func6 (by kernel_rfl)
    (of_decide_eq_true (by kernel_rfl)) (by unfold Func.isWrapper; first | (rw [if_pos (by decide +kernel)]; kernel_rfl) | (rw [if_neg (by decide +kernel)]; exact ⟨rfl, rfl⟩))
    (fun os started H enc _ => messageEpochs_lifted os started H enc)
#print axioms messageEpochs_holds

end Go.Proofs.Ytljcgpdjhjkciaa
