/-
  Proved: for every choice of parts and every byte the law MessageBack of package bucketlinelaw7 returns true, and its argument reads as before: what was put is taken as it was, with a byte less, or more, it is not. No condition.
-/
import Derived.Test.YtljcgpdjhjkciaaMsgMore
import Derived.Test.YtljcgpdjhjkciaaMsgSames
import Derived.Deep.DeepCutAuto
import Derived.Deep.RegionHeld3
import Derived.ProofKit
import Derived.OpenShut
import Derived.ShutString
namespace Go.Proofs.Ytljcgpdjhjkciaa
open Go.ChangeShapes Go.WideShapes Go.ChangeAt Go.RowKit
open Go.ChangeMaps (open_string shut_string)
attribute [local go_sem] ext_Bd ext_Bl ext_Bt toList_B add_B size_B get_Bt

theorem messageBack_own : ownKnob Try.prog.godebug = none := by kernel_rfl
theorem messageBack_laid : laidOutB Try.prog = true := by kernel_rfl

theorem byte_of {a : Int} (h : (Lit.int .u8 a).wf = true) : ∃ b : UInt8, a = (b.toNat : Int) := by
  have h2 : 0 ≤ a ∧ a ≤ 255 := by
    simp only [Lit.wf, Bool.and_eq_true, decide_eq_true_eq] at h
    exact h
  exact ⟨a.toNat.toUInt8, by simp; omega⟩
theorem conv_byte (b : UInt8) (w : World) : (convert 42 9 (.slice (some ⟨w.heap.size, 0, none⟩) 1 1)).run Try.prog (w.alloc (.cells #[.int .u8 (b.toNat : Int)] 5)) = .ok (.string (B [b])) (w.alloc (.cells #[.int .u8 (b.toNat : Int)] 5)) :=
  conv_owned (base := w.heap.size) (n := 1) (l := [b]) ⟨rfl, .inr ⟨w.heap.size, 1, #[.int .u8 (b.toNat : Int)], rfl, Nat.le_refl _, World.alloc_heap_new w _, by omega, by unfold maxLen; omega, rfl, rfl⟩⟩
theorem below_alloc_block {w : World} {q : Nat} {o : Obj} (h : w.heap[q]? = some o) (o2 : Obj) : (w.alloc o2).heap[q]? = some o :=
  block_below h ((Below.refl _ w).alloc (Nat.le_refl _) o2)
set_option maxHeartbeats 8000000 in
set_option maxRecDepth 100000 in
theorem back_none (d : Dr) (b : UInt8) (w : World) (hr : d.Reads w) (hm : d.msg = none) :
    Calls Try.prog 3 #[d.val, .int .u8 (b.toNat : Int)] w fun r w' => r = .returned (.bool true) ∧ Below w.heap.size w w' := by
  have hnn : ∀ (W : World) (u : TypeId) (v : Value), (binOp .neq 34 (.iface u v) .nilIface).run Try.prog W = .ok (.bool true) W := fun _ _ _ => by kernel_rfl
  have hne := not_nil
  have hin := is_nil
  obtain ⟨dkind, dn0, dn1, dn2, dn3, dn4, dn5, dch, dsi, dbo, dma, den, dev, ⟨dst, dex, dse, dsq, devs⟩, dstr, dvc, dvs, dvb, dvm, dve, dvv, dvt⟩ := d
  obtain ⟨da1, db1, dc1, hq1⟩ := formI hr.ch
  obtain ⟨da2, db2, dc2, hq2⟩ := formI hr.si
  obtain ⟨da3, db3, dc3, hq3⟩ := formI hr.bo
  obtain ⟨da4, db4, dc4, hq4⟩ := formM hr.ma
  obtain ⟨da5, db5, dc5, hq5⟩ := formR hr.en
  obtain ⟨da6, db6, dc6, hq6⟩ := readsE_form hr.ev
  obtain ⟨da7, db7, dc7, hq7⟩ := readsE_form hr.bt
  dsimp only at hq1 hq2 hq3 hq4 hq5 hq6 hq7
  subst hq1 hq2 hq3 hq4 hq5 hq6 hq7
  have HRD := Lib.hid hr
  clear hr
  dsimp only [Dr.val]
  go_enter Try.func3, Try.ntmps3
  go_wp2_with fail
  refine (shown7_l _).mono ?_
  rintro x w1 ⟨rfl, hb1⟩
  have HX1 := Lib.hid (block_below (new_at (w := w) (ob := .cells #[.int .i64 dkind, .int .i64 dn0, .int .i64 dn1, .int .i64 dn2, .int .i64 dn3, .int .i64 dn4, .int .i64 dn5, .slice da1 db1 dc1, .slice da2 db2 dc2, .slice da3 db3 dc3, .slice da4 db4 dc4, .slice da5 db5 dc5, .slice da6 db6 dc6, .string (B dst), .int .i64 dex, .int .i64 dse, .int .i64 dsq, .slice da7 db7 dc7, .string (B dstr)] 30) rfl) hb1)
  have HB1 := Lib.hid (below_box hb1)
  clear hb1
  go_upto_region 2 with (fail)
  refine wp_region_lit ?_
  refine wpList_load_row rfl 30 (.tmp 2) rfl (w.heap.size) rfl 30 #[.int .i64 dkind, .int .i64 dn0, .int .i64 dn1, .int .i64 dn2, .int .i64 dn3, .int .i64 dn4, .int .i64 dn5, .slice da1 db1 dc1, .slice da2 db2 dc2, .slice da3 db3 dc3, .slice da4 db4 dc4, .slice da5 db5 dc5, .slice da6 db6 dc6, .string (B dst), .int .i64 dex, .int .i64 dse, .int .i64 dsq, .slice da7 db7 dc7, .string (B dstr)] (0, 0) _ HX1.out Try.underlying30 rfl (by kernel_rfl) ?_
  go_wp2_with fail
  refine (small7_l ⟨dkind, dn0, dn1, dn2, dn3, dn4, dn5, dch, dsi, dbo, dma, den, dev, ⟨dst, dex, dse, dsq, devs⟩, dstr, .slice da1 db1 dc1, .slice da2 db2 dc2, .slice da3 db3 dc3, .slice da4 db4 dc4, .slice da5 db5 dc5, .slice da6 db6 dc6, .slice da7 db7 dc7⟩ w1 (HRD.out.below HB1.out)).mono ?_
  rintro x w2 ⟨hok, hb2⟩
  obtain ⟨ok, rfl⟩ : ∃ ok, x = .returned (.bool ok) := by rcases hok with h | h <;> exact ⟨_, h⟩
  clear hok
  have HX2 := Lib.hid (block_below HX1.out hb2)
  have HB2 := Lib.hid (HB1.out.trans (hb2.mono HB1.out.size))
  clear hb2 HX1 HB1
  have hC : Calls Try.prog 9 #[Dr.val ⟨dkind, dn0, dn1, dn2, dn3, dn4, dn5, dch, dsi, dbo, dma, den, dev, ⟨dst, dex, dse, dsq, devs⟩, dstr, .slice da1 db1 dc1, .slice da2 db2 dc2, .slice da3 db3 dc3, .slice da4 db4 dc4, .slice da5 db5 dc5, .slice da6 db6 dc6, .slice da7 db7 dc7⟩] w2 fun x w' => x = .returned .nilIface ∧ Below w2.heap.size w2 w' := by
    rcases made_at ⟨dkind, dn0, dn1, dn2, dn3, dn4, dn5, dch, dsi, dbo, dma, den, dev, ⟨dst, dex, dse, dsq, devs⟩, dstr, .slice da1 db1 dc1, .slice da2 db2 dc2, .slice da3 db3 dc3, .slice da4 db4 dc4, .slice da5 db5 dc5, .slice da6 db6 dc6, .slice da7 db7 dc7⟩ w2 w HRD.out with ⟨m, hm2, -⟩ | ⟨-, hC⟩
    · rw [hm] at hm2; cases hm2
    · exact hC
  clear hm
  have HC9 := Lib.hid hC
  clear hC
  go_upto_region 3 with (fail)
  refine wp_region_lit ?_
  refine wpList_load_row rfl 30 (.tmp 2) rfl (w.heap.size) rfl 30 #[.int .i64 dkind, .int .i64 dn0, .int .i64 dn1, .int .i64 dn2, .int .i64 dn3, .int .i64 dn4, .int .i64 dn5, .slice da1 db1 dc1, .slice da2 db2 dc2, .slice da3 db3 dc3, .slice da4 db4 dc4, .slice da5 db5 dc5, .slice da6 db6 dc6, .string (B dst), .int .i64 dex, .int .i64 dse, .int .i64 dsq, .slice da7 db7 dc7, .string (B dstr)] (0, 0) _ HX2.out Try.underlying30 rfl (by kernel_rfl) ?_
  go_wp2_with fail
  refine HC9.out.mono ?_
  rintro x w3 ⟨rfl, hb3⟩
  have HB3 := Lib.hid (HB2.out.trans (hb3.mono HB2.out.size))
  clear hb3
  cases ok
  · go_wp2
    go_ret
    exact ⟨rfl, HB3.out⟩
  · go_wp2
    go_ret
    exact ⟨rfl, HB3.out⟩
set_option maxHeartbeats 8000000 in
set_option maxRecDepth 100000 in
theorem back_bad (d : Dr) (b : UInt8) (w : World) (hr : d.Reads w) (m : MV) (hm : d.msg = some m) (hrt : m.right = false) :
    Calls Try.prog 3 #[d.val, .int .u8 (b.toNat : Int)] w fun r w' => r = .returned (.bool true) ∧ Below w.heap.size w w' := by
  have hnn : ∀ (W : World) (u : TypeId) (v : Value), (binOp .neq 34 (.iface u v) .nilIface).run Try.prog W = .ok (.bool true) W := fun _ _ _ => by kernel_rfl
  have hne := not_nil
  have hin := is_nil
  obtain ⟨dkind, dn0, dn1, dn2, dn3, dn4, dn5, dch, dsi, dbo, dma, den, dev, ⟨dst, dex, dse, dsq, devs⟩, dstr, dvc, dvs, dvb, dvm, dve, dvv, dvt⟩ := d
  obtain ⟨da1, db1, dc1, hq1⟩ := formI hr.ch
  obtain ⟨da2, db2, dc2, hq2⟩ := formI hr.si
  obtain ⟨da3, db3, dc3, hq3⟩ := formI hr.bo
  obtain ⟨da4, db4, dc4, hq4⟩ := formM hr.ma
  obtain ⟨da5, db5, dc5, hq5⟩ := formR hr.en
  obtain ⟨da6, db6, dc6, hq6⟩ := readsE_form hr.ev
  obtain ⟨da7, db7, dc7, hq7⟩ := readsE_form hr.bt
  dsimp only at hq1 hq2 hq3 hq4 hq5 hq6 hq7
  subst hq1 hq2 hq3 hq4 hq5 hq6 hq7
  have HRD := Lib.hid hr
  clear hr
  dsimp only [Dr.val]
  go_enter Try.func3, Try.ntmps3
  go_wp2_with fail
  refine (shown7_l _).mono ?_
  rintro x w1 ⟨rfl, hb1⟩
  have HX1 := Lib.hid (block_below (new_at (w := w) (ob := .cells #[.int .i64 dkind, .int .i64 dn0, .int .i64 dn1, .int .i64 dn2, .int .i64 dn3, .int .i64 dn4, .int .i64 dn5, .slice da1 db1 dc1, .slice da2 db2 dc2, .slice da3 db3 dc3, .slice da4 db4 dc4, .slice da5 db5 dc5, .slice da6 db6 dc6, .string (B dst), .int .i64 dex, .int .i64 dse, .int .i64 dsq, .slice da7 db7 dc7, .string (B dstr)] 30) rfl) hb1)
  have HB1 := Lib.hid (below_box hb1)
  clear hb1
  go_upto_region 2 with (fail)
  refine wp_region_lit ?_
  refine wpList_load_row rfl 30 (.tmp 2) rfl (w.heap.size) rfl 30 #[.int .i64 dkind, .int .i64 dn0, .int .i64 dn1, .int .i64 dn2, .int .i64 dn3, .int .i64 dn4, .int .i64 dn5, .slice da1 db1 dc1, .slice da2 db2 dc2, .slice da3 db3 dc3, .slice da4 db4 dc4, .slice da5 db5 dc5, .slice da6 db6 dc6, .string (B dst), .int .i64 dex, .int .i64 dse, .int .i64 dsq, .slice da7 db7 dc7, .string (B dstr)] (0, 0) _ HX1.out Try.underlying30 rfl (by kernel_rfl) ?_
  go_wp2_with fail
  refine (small7_l ⟨dkind, dn0, dn1, dn2, dn3, dn4, dn5, dch, dsi, dbo, dma, den, dev, ⟨dst, dex, dse, dsq, devs⟩, dstr, .slice da1 db1 dc1, .slice da2 db2 dc2, .slice da3 db3 dc3, .slice da4 db4 dc4, .slice da5 db5 dc5, .slice da6 db6 dc6, .slice da7 db7 dc7⟩ w1 (HRD.out.below HB1.out)).mono ?_
  rintro x w2 ⟨hok, hb2⟩
  obtain ⟨ok, rfl⟩ : ∃ ok, x = .returned (.bool ok) := by rcases hok with h | h <;> exact ⟨_, h⟩
  clear hok
  have HX2 := Lib.hid (block_below HX1.out hb2)
  have HB2 := Lib.hid (HB1.out.trans (hb2.mono HB1.out.size))
  clear hb2 HX1 HB1
  have hC : Calls Try.prog 9 #[Dr.val ⟨dkind, dn0, dn1, dn2, dn3, dn4, dn5, dch, dsi, dbo, dma, den, dev, ⟨dst, dex, dse, dsq, devs⟩, dstr, .slice da1 db1 dc1, .slice da2 db2 dc2, .slice da3 db3 dc3, .slice da4 db4 dc4, .slice da5 db5 dc5, .slice da6 db6 dc6, .slice da7 db7 dc7⟩] w2 fun x w' => x = .returned m.val ∧ Below w2.heap.size w2 w' := by
    rcases made_at ⟨dkind, dn0, dn1, dn2, dn3, dn4, dn5, dch, dsi, dbo, dma, den, dev, ⟨dst, dex, dse, dsq, devs⟩, dstr, .slice da1 db1 dc1, .slice da2 db2 dc2, .slice da3 db3 dc3, .slice da4 db4 dc4, .slice da5 db5 dc5, .slice da6 db6 dc6, .slice da7 db7 dc7⟩ w2 w HRD.out with ⟨m2, hm2, hC⟩ | ⟨hm2, -⟩
    · rw [hm] at hm2; cases hm2; exact hC
    · rw [hm] at hm2; cases hm2
  have hM := made_is HRD.out hm
  obtain ⟨u, z, kf, hv, -, -, -⟩ := kind_of m w hM.reads
  have HM := Lib.hid hM
  have HC : Hid (Calls Try.prog 9 #[Dr.val ⟨dkind, dn0, dn1, dn2, dn3, dn4, dn5, dch, dsi, dbo, dma, den, dev, ⟨dst, dex, dse, dsq, devs⟩, dstr, .slice da1 db1 dc1, .slice da2 db2 dc2, .slice da3 db3 dc3, .slice da4 db4 dc4, .slice da5 db5 dc5, .slice da6 db6 dc6, .slice da7 db7 dc7⟩] w2 fun x w' => x = .returned (.iface u z) ∧ Below w2.heap.size w2 w') := Lib.hid (by rw [← hv]; exact hC)
  have HV := Lib.hid hv
  clear hm hM hC hv
  go_upto_region 3 with (fail)
  refine wp_region_lit ?_
  refine wpList_load_row rfl 30 (.tmp 2) rfl (w.heap.size) rfl 30 #[.int .i64 dkind, .int .i64 dn0, .int .i64 dn1, .int .i64 dn2, .int .i64 dn3, .int .i64 dn4, .int .i64 dn5, .slice da1 db1 dc1, .slice da2 db2 dc2, .slice da3 db3 dc3, .slice da4 db4 dc4, .slice da5 db5 dc5, .slice da6 db6 dc6, .string (B dst), .int .i64 dex, .int .i64 dse, .int .i64 dsq, .slice da7 db7 dc7, .string (B dstr)] (0, 0) _ HX2.out Try.underlying30 rfl (by kernel_rfl) ?_
  go_wp2_with fail
  refine HC.out.mono ?_
  rintro x w3 ⟨rfl, hb3⟩
  have HB3 := Lib.hid (HB2.out.trans (hb3.mono HB2.out.size))
  clear hb3 HX2 HB2 HC
  cases ok
  · go_wp2
    go_ret
    exact ⟨rfl, HB3.out⟩
  have HRT := Lib.hid hrt
  clear hrt
  obtain ⟨s, HS⟩ : ∃ s, Hid (m.out = s) := ⟨_, Lib.hid rfl⟩
  have HP : Hid (∀ W, Below w.heap.size w W → Calls Try.prog 10 #[.iface u z] W fun x w' => x = .returned (.string (B s)) ∧ Below W.heap.size W w') := Lib.hid fun W h => by rw [← HV.out]; exact MPut_at m s W (MV.reads_below HM.out.reads h) HS
  have HR : Hid (∀ W, Below w.heap.size w W → Calls Try.prog 11 #[.iface u z] W fun x w' => x = .returned (.bool false) ∧ Below W.heap.size W w') := Lib.hid fun W h => by rw [← HV.out]; exact MRight_at m false W (MV.reads_below HM.out.reads h) HRT
  go_wp2_with fail
  refine (HP.out w3 HB3.out).mono ?_
  rintro x w4 ⟨rfl, hb4⟩
  have HB4 := Lib.hid (HB3.out.trans (hb4.mono HB3.out.size))
  clear hb4 HB3 HP
  go_wp2_with fail
  refine (HR.out w4 HB4.out).mono ?_
  rintro x w5 ⟨rfl, hb5⟩
  have HB5 := Lib.hid (HB4.out.trans (hb5.mono HB4.out.size))
  clear hb5 HB4 HR
  obtain rfl : s = [] := by rw [← HS.out]; unfold MV.out; rw [HRT.out]; rfl
  have HE : Hid (∀ W, Below w.heap.size w W → Calls Try.prog 12 #[.iface u z] W fun x w' => x = .returned (.int .i64 0) ∧ Below W.heap.size W w') := Lib.hid fun W h => by rw [← HV.out]; exact MEpoch_at m 0 W (MV.reads_below HM.out.reads h) (Lib.hid (by rw [HRT.out]; rfl))
  go_wp2_with fail
  refine (HE.out w5 HB5.out).mono ?_
  rintro x w6 ⟨rfl, hb6⟩
  have HB6 := Lib.hid (HB5.out.trans (hb6.mono HB5.out.size))
  clear hb6
  go_wp2
  go_ret
  exact ⟨rfl, HB6.out⟩
set_option maxHeartbeats 8000000 in
set_option maxRecDepth 100000 in
theorem back_good (d : Dr) (b : UInt8) (w : World) (hr : d.Reads w) (m : MV) (hm : d.msg = some m) (hrt : m.right = true) :
    Calls Try.prog 3 #[d.val, .int .u8 (b.toNat : Int)] w fun r w' => r = .returned (.bool true) ∧ Below w.heap.size w w' := by
  have hnn : ∀ (W : World) (u : TypeId) (v : Value), (binOp .neq 34 (.iface u v) .nilIface).run Try.prog W = .ok (.bool true) W := fun _ _ _ => by kernel_rfl
  have hne := not_nil
  have hin := is_nil
  obtain ⟨dkind, dn0, dn1, dn2, dn3, dn4, dn5, dch, dsi, dbo, dma, den, dev, ⟨dst, dex, dse, dsq, devs⟩, dstr, dvc, dvs, dvb, dvm, dve, dvv, dvt⟩ := d
  obtain ⟨da1, db1, dc1, hq1⟩ := formI hr.ch
  obtain ⟨da2, db2, dc2, hq2⟩ := formI hr.si
  obtain ⟨da3, db3, dc3, hq3⟩ := formI hr.bo
  obtain ⟨da4, db4, dc4, hq4⟩ := formM hr.ma
  obtain ⟨da5, db5, dc5, hq5⟩ := formR hr.en
  obtain ⟨da6, db6, dc6, hq6⟩ := readsE_form hr.ev
  obtain ⟨da7, db7, dc7, hq7⟩ := readsE_form hr.bt
  dsimp only at hq1 hq2 hq3 hq4 hq5 hq6 hq7
  subst hq1 hq2 hq3 hq4 hq5 hq6 hq7
  have HRD := Lib.hid hr
  clear hr
  dsimp only [Dr.val]
  go_enter Try.func3, Try.ntmps3
  go_wp2_with fail
  refine (shown7_l _).mono ?_
  rintro x w1 ⟨rfl, hb1⟩
  have HX1 := Lib.hid (block_below (new_at (w := w) (ob := .cells #[.int .i64 dkind, .int .i64 dn0, .int .i64 dn1, .int .i64 dn2, .int .i64 dn3, .int .i64 dn4, .int .i64 dn5, .slice da1 db1 dc1, .slice da2 db2 dc2, .slice da3 db3 dc3, .slice da4 db4 dc4, .slice da5 db5 dc5, .slice da6 db6 dc6, .string (B dst), .int .i64 dex, .int .i64 dse, .int .i64 dsq, .slice da7 db7 dc7, .string (B dstr)] 30) rfl) hb1)
  have HB1 := Lib.hid (below_box hb1)
  clear hb1
  go_upto_region 2 with (fail)
  refine wp_region_lit ?_
  refine wpList_load_row rfl 30 (.tmp 2) rfl (w.heap.size) rfl 30 #[.int .i64 dkind, .int .i64 dn0, .int .i64 dn1, .int .i64 dn2, .int .i64 dn3, .int .i64 dn4, .int .i64 dn5, .slice da1 db1 dc1, .slice da2 db2 dc2, .slice da3 db3 dc3, .slice da4 db4 dc4, .slice da5 db5 dc5, .slice da6 db6 dc6, .string (B dst), .int .i64 dex, .int .i64 dse, .int .i64 dsq, .slice da7 db7 dc7, .string (B dstr)] (0, 0) _ HX1.out Try.underlying30 rfl (by kernel_rfl) ?_
  go_wp2_with fail
  refine (small7_l ⟨dkind, dn0, dn1, dn2, dn3, dn4, dn5, dch, dsi, dbo, dma, den, dev, ⟨dst, dex, dse, dsq, devs⟩, dstr, .slice da1 db1 dc1, .slice da2 db2 dc2, .slice da3 db3 dc3, .slice da4 db4 dc4, .slice da5 db5 dc5, .slice da6 db6 dc6, .slice da7 db7 dc7⟩ w1 (HRD.out.below HB1.out)).mono ?_
  rintro x w2 ⟨hok, hb2⟩
  obtain ⟨ok, rfl⟩ : ∃ ok, x = .returned (.bool ok) := by rcases hok with h | h <;> exact ⟨_, h⟩
  clear hok
  have HX2 := Lib.hid (block_below HX1.out hb2)
  have HB2 := Lib.hid (HB1.out.trans (hb2.mono HB1.out.size))
  clear hb2 HX1 HB1
  have hC : Calls Try.prog 9 #[Dr.val ⟨dkind, dn0, dn1, dn2, dn3, dn4, dn5, dch, dsi, dbo, dma, den, dev, ⟨dst, dex, dse, dsq, devs⟩, dstr, .slice da1 db1 dc1, .slice da2 db2 dc2, .slice da3 db3 dc3, .slice da4 db4 dc4, .slice da5 db5 dc5, .slice da6 db6 dc6, .slice da7 db7 dc7⟩] w2 fun x w' => x = .returned m.val ∧ Below w2.heap.size w2 w' := by
    rcases made_at ⟨dkind, dn0, dn1, dn2, dn3, dn4, dn5, dch, dsi, dbo, dma, den, dev, ⟨dst, dex, dse, dsq, devs⟩, dstr, .slice da1 db1 dc1, .slice da2 db2 dc2, .slice da3 db3 dc3, .slice da4 db4 dc4, .slice da5 db5 dc5, .slice da6 db6 dc6, .slice da7 db7 dc7⟩ w2 w HRD.out with ⟨m2, hm2, hC⟩ | ⟨hm2, -⟩
    · rw [hm] at hm2; cases hm2; exact hC
    · rw [hm] at hm2; cases hm2
  have hM := made_is HRD.out hm
  obtain ⟨u, z, kf, hv, -, -, -⟩ := kind_of m w hM.reads
  have HM := Lib.hid hM
  have HC : Hid (Calls Try.prog 9 #[Dr.val ⟨dkind, dn0, dn1, dn2, dn3, dn4, dn5, dch, dsi, dbo, dma, den, dev, ⟨dst, dex, dse, dsq, devs⟩, dstr, .slice da1 db1 dc1, .slice da2 db2 dc2, .slice da3 db3 dc3, .slice da4 db4 dc4, .slice da5 db5 dc5, .slice da6 db6 dc6, .slice da7 db7 dc7⟩] w2 fun x w' => x = .returned (.iface u z) ∧ Below w2.heap.size w2 w') := Lib.hid (by rw [← hv]; exact hC)
  have HV := Lib.hid hv
  clear hm hM hC hv
  go_upto_region 3 with (fail)
  refine wp_region_lit ?_
  refine wpList_load_row rfl 30 (.tmp 2) rfl (w.heap.size) rfl 30 #[.int .i64 dkind, .int .i64 dn0, .int .i64 dn1, .int .i64 dn2, .int .i64 dn3, .int .i64 dn4, .int .i64 dn5, .slice da1 db1 dc1, .slice da2 db2 dc2, .slice da3 db3 dc3, .slice da4 db4 dc4, .slice da5 db5 dc5, .slice da6 db6 dc6, .string (B dst), .int .i64 dex, .int .i64 dse, .int .i64 dsq, .slice da7 db7 dc7, .string (B dstr)] (0, 0) _ HX2.out Try.underlying30 rfl (by kernel_rfl) ?_
  go_wp2_with fail
  refine HC.out.mono ?_
  rintro x w3 ⟨rfl, hb3⟩
  have HB3 := Lib.hid (HB2.out.trans (hb3.mono HB2.out.size))
  clear hb3 HX2 HB2 HC
  cases ok
  · go_wp2
    go_ret
    exact ⟨rfl, HB3.out⟩
  have HRT := Lib.hid hrt
  clear hrt
  obtain ⟨s, HS⟩ : ∃ s, Hid (m.out = s) := ⟨_, Lib.hid rfl⟩
  have HP : Hid (∀ W, Below w.heap.size w W → Calls Try.prog 10 #[.iface u z] W fun x w' => x = .returned (.string (B s)) ∧ Below W.heap.size W w') := Lib.hid fun W h => by rw [← HV.out]; exact MPut_at m s W (MV.reads_below HM.out.reads h) HS
  have HR : Hid (∀ W, Below w.heap.size w W → Calls Try.prog 11 #[.iface u z] W fun x w' => x = .returned (.bool true) ∧ Below W.heap.size W w') := Lib.hid fun W h => by rw [← HV.out]; exact MRight_at m true W (MV.reads_below HM.out.reads h) HRT
  go_wp2_with fail
  refine (HP.out w3 HB3.out).mono ?_
  rintro x w4 ⟨rfl, hb4⟩
  have HB4 := Lib.hid (HB3.out.trans (hb4.mono HB3.out.size))
  clear hb4 HB3 HP
  go_wp2_with fail
  refine (HR.out w4 HB4.out).mono ?_
  rintro x w5 ⟨rfl, hb5⟩
  have HB5 := Lib.hid (HB4.out.trans (hb5.mono HB4.out.size))
  clear hb5 HB4 HR
  have hsb : s = m.bytes := by rw [← HS.out]; unfold MV.out; rw [HRT.out]; rfl
  have hsl := bytes_len m HRT.out
  have hsp : 0 < m.bytes.length := by rw [bytes_cons]; simp
  have HTK := Lib.hid (show M.takeMsg s = Sum.inl ⟨m.kind, m.parts⟩ by rw [hsb]; exact take_right m HRT.out)
  have HTL := Lib.hid (show M.takeMsg (s.take (s.length - 1)) = Sum.inr 3 by rw [hsb]; exact take_less m HRT.out)
  have HTM := Lib.hid (show M.takeMsg (s ++ [b]) = Sum.inr 2 by rw [hsb]; exact take_more m HRT.out b)
  rw [← hsb] at hsl hsp
  clear hsb
  go_wp2_with fail
  refine (MTake_at s _ w5 (by omega) HTK).mono ?_
  rintro x w6 ⟨hb6, m2, rfl, hk2, hp2, hrd2⟩
  have HB6 := Lib.hid (HB5.out.trans (hb6.mono HB5.out.size))
  obtain ⟨u2, z2, kf2, hv2, -, -, -⟩ := kind_of m2 w6 hrd2
  have HRD2 := Lib.hid hrd2
  have HV2 := Lib.hid hv2
  have HK2 := Lib.hid hk2
  have HP2 := Lib.hid hp2
  rw [hv2]
  clear hb6 HB5 hk2 hp2 hrd2 hv2 HTK
  obtain ⟨pl, hpl⟩ : ∃ pl, s.length = pl + 1 := ⟨s.length - 1, by omega⟩
  have e1 : s.take (s.length - 1) = s.take pl := by rw [hpl, Nat.add_sub_cancel]
  rw [e1] at HTL
  clear e1 hsp
  have htl : (s.take pl).length ≤ 1000000 := by rw [List.length_take]; omega
  have htm : (s ++ [b]).length ≤ 1000000 := by rw [List.length_append]; simp; omega
  go_wp2_with fail
  refine (MTake_at (s.take pl) _ w6 htl HTL).mono ?_
  rintro x w7 ⟨hb7, rfl⟩
  have HB67 := Lib.hid hb7
  have HB7 := Lib.hid (HB6.out.trans (hb7.mono HB6.out.size))
  clear hb7 HTL htl hpl
  have kc := conv_byte b w7
  go_wp2_with fail
  refine (MTake_at (s ++ [b]) _ _ htm HTM).mono ?_
  rintro x w8 ⟨hb8, rfl⟩
  have HB68 := Lib.hid (HB67.out.trans ((below_box hb8).mono HB67.out.size))
  have HB8 := Lib.hid (HB6.out.trans (HB68.out.mono HB6.out.size))
  clear hb8 HB7 HB6 HB67 kc htm HTM
  have HFL : Hid (∀ W, Calls Try.prog 14 #[.iface u z] W fun x w' => ∃ q, x = .returned (.tuple #[.agg (m.flat q), .bool true]) ∧ w'.heap[q]? = some (.cells (intsA m.nums) 3 (0, 0)) ∧ Below W.heap.size W w' ∧ W.heap.size ≤ q) := Lib.hid fun W => by rw [← HV.out]; exact flat_at m W w HM.out.reads
  have HFL2 : Hid (∀ W, Calls Try.prog 14 #[.iface u2 z2] W fun x w' => ∃ q, x = .returned (.tuple #[.agg (m2.flat q), .bool true]) ∧ w'.heap[q]? = some (.cells (intsA m2.nums) 3 (0, 0)) ∧ Below W.heap.size W w' ∧ W.heap.size ≤ q) := Lib.hid fun W => by rw [← HV2.out]; exact flat_at m2 W w6 HRD2.out
  go_wp2_with fail
  refine (HFL.out w8).mono ?_
  rintro x w9 ⟨q1, rfl, hq1, hb9, -⟩
  obtain ⟨xk, xa1, xb1, xc1, xa2, xb2, xc2, xa3, xb3, xc3, xa4, xb4, xc4, xa5, xb5, xc5, xa6, xb6, xc6, xa7, xb7, xc7, xs1, xn1, xn2, xn3, xa8, xb8, xc8, xs2, hfx⟩ := flat_form m q1 w HM.out.reads
  have HFX := Lib.hid hfx
  rw [hfx]
  have HQ1 := Lib.hid hq1
  have HB69 := Lib.hid (HB68.out.trans (hb9.mono HB68.out.size))
  have HB9 := Lib.hid (HB8.out.trans (hb9.mono HB8.out.size))
  clear hfx hq1 hb9 HFL HB68 HB8
  go_wp2_with fail
  refine (HFL2.out _).mono ?_
  rintro x w10 ⟨q2, rfl, hq2, hb10, -⟩
  obtain ⟨yk, ya1, yb1, yc1, ya2, yb2, yc2, ya3, yb3, yc3, ya4, yb4, yc4, ya5, yb5, yc5, ya6, yb6, yc6, ya7, yb7, yc7, ys1, yn1, yn2, yn3, ya8, yb8, yc8, ys2, hfy⟩ := flat_form m2 q2 w6 HRD2.out
  have HFY := Lib.hid hfy
  rw [hfy]
  have HR1 := Lib.hid (block_below (new_at (w := w9) (ob := .cells #[.int .i64 xk, .slice xa1 xb1 xc1, .slice xa2 xb2 xc2, .slice xa3 xb3 xc3, .slice xa4 xb4 xc4, .slice xa5 xb5 xc5, .slice xa6 xb6 xc6, .slice xa7 xb7 xc7, .string xs1, .int .i64 xn1, .int .i64 xn2, .int .i64 xn3, .slice xa8 xb8 xc8, .string xs2] 44) rfl) hb10)
  have HQ1a := Lib.hid (block_below (below_alloc_block HQ1.out (.cells #[.int .i64 xk, .slice xa1 xb1 xc1, .slice xa2 xb2 xc2, .slice xa3 xb3 xc3, .slice xa4 xb4 xc4, .slice xa5 xb5 xc5, .slice xa6 xb6 xc6, .slice xa7 xb7 xc7, .string xs1, .int .i64 xn1, .int .i64 xn2, .int .i64 xn3, .slice xa8 xb8 xc8, .string xs2] 44)) hb10)
  have HB910 := Lib.hid (below_box hb10)
  have HB610 := Lib.hid (HB69.out.trans (HB910.out.mono HB69.out.size))
  have HB10 := Lib.hid (HB9.out.trans (HB910.out.mono HB9.out.size))
  have HQ2 := Lib.hid hq2
  clear hfy hq2 hb10 HFL2 HB69 HB9 HQ1 HB910
  have HZ1 := Lib.hid (below_alloc_block HR1.out (.cells #[.int .i64 yk, .slice ya1 yb1 yc1, .slice ya2 yb2 yc2, .slice ya3 yb3 yc3, .slice ya4 yb4 yc4, .slice ya5 yb5 yc5, .slice ya6 yb6 yc6, .slice ya7 yb7 yc7, .string ys1, .int .i64 yn1, .int .i64 yn2, .int .i64 yn3, .slice ya8 yb8 yc8, .string ys2] 44))
  have HZ2 : Hid ((w10.alloc (.cells #[.int .i64 yk, .slice ya1 yb1 yc1, .slice ya2 yb2 yc2, .slice ya3 yb3 yc3, .slice ya4 yb4 yc4, .slice ya5 yb5 yc5, .slice ya6 yb6 yc6, .slice ya7 yb7 yc7, .string ys1, .int .i64 yn1, .int .i64 yn2, .int .i64 yn3, .slice ya8 yb8 yc8, .string ys2] 44)).heap[w10.heap.size]? = some (.cells #[.int .i64 yk, .slice ya1 yb1 yc1, .slice ya2 yb2 yc2, .slice ya3 yb3 yc3, .slice ya4 yb4 yc4, .slice ya5 yb5 yc5, .slice ya6 yb6 yc6, .slice ya7 yb7 yc7, .string ys1, .int .i64 yn1, .int .i64 yn2, .int .i64 yn3, .slice ya8 yb8 yc8, .string ys2] 44 (0, 0))) := Lib.hid (new_at (w := w10) rfl)
  have HBZ := Lib.hid (HB10.out.alloc HB10.out.size (.cells #[.int .i64 yk, .slice ya1 yb1 yc1, .slice ya2 yb2 yc2, .slice ya3 yb3 yc3, .slice ya4 yb4 yc4, .slice ya5 yb5 yc5, .slice ya6 yb6 yc6, .slice ya7 yb7 yc7, .string ys1, .int .i64 yn1, .int .i64 yn2, .int .i64 yn3, .slice ya8 yb8 yc8, .string ys2] 44))
  have HSM : Hid (Calls Try.prog 15 #[.agg #[.int .i64 xk, .slice xa1 xb1 xc1, .slice xa2 xb2 xc2, .slice xa3 xb3 xc3, .slice xa4 xb4 xc4, .slice xa5 xb5 xc5, .slice xa6 xb6 xc6, .slice xa7 xb7 xc7, .string xs1, .int .i64 xn1, .int .i64 xn2, .int .i64 xn3, .slice xa8 xb8 xc8, .string xs2], .agg #[.int .i64 yk, .slice ya1 yb1 yc1, .slice ya2 yb2 yc2, .slice ya3 yb3 yc3, .slice ya4 yb4 yc4, .slice ya5 yb5 yc5, .slice ya6 yb6 yc6, .slice ya7 yb7 yc7, .string ys1, .int .i64 yn1, .int .i64 yn2, .int .i64 yn3, .slice ya8 yb8 yc8, .string ys2]] (w10.alloc (.cells #[.int .i64 yk, .slice ya1 yb1 yc1, .slice ya2 yb2 yc2, .slice ya3 yb3 yc3, .slice ya4 yb4 yc4, .slice ya5 yb5 yc5, .slice ya6 yb6 yc6, .slice ya7 yb7 yc7, .string ys1, .int .i64 yn1, .int .i64 yn2, .int .i64 yn3, .slice ya8 yb8 yc8, .string ys2] 44)) fun r w' => r = .returned (.bool true) ∧ Below (w10.alloc (.cells #[.int .i64 yk, .slice ya1 yb1 yc1, .slice ya2 yb2 yc2, .slice ya3 yb3 yc3, .slice ya4 yb4 yc4, .slice ya5 yb5 yc5, .slice ya6 yb6 yc6, .slice ya7 yb7 yc7, .string ys1, .int .i64 yn1, .int .i64 yn2, .int .i64 yn3, .slice ya8 yb8 yc8, .string ys2] 44)).heap.size (w10.alloc (.cells #[.int .i64 yk, .slice ya1 yb1 yc1, .slice ya2 yb2 yc2, .slice ya3 yb3 yc3, .slice ya4 yb4 yc4, .slice ya5 yb5 yc5, .slice ya6 yb6 yc6, .slice ya7 yb7 yc7, .string ys1, .int .i64 yn1, .int .i64 yn2, .int .i64 yn3, .slice ya8 yb8 yc8, .string ys2] 44)) w') := Lib.hid (by
    rw [← HFX.out, ← HFY.out]
    exact same_flat m m2 q1 q2 _ HK2.out HP2.out (MV.reads_below HM.out.reads (HB10.out.alloc HB10.out.size _)) (MV.reads_below HRD2.out (HB610.out.alloc HB610.out.size _)) HRT.out (below_alloc_block HQ1a.out _) (below_alloc_block HQ2.out _))
  go_upto_region 14 with (fail)
  generalize w10.alloc (.cells #[.int .i64 yk, .slice ya1 yb1 yc1, .slice ya2 yb2 yc2, .slice ya3 yb3 yc3, .slice ya4 yb4 yc4, .slice ya5 yb5 yc5, .slice ya6 yb6 yc6, .slice ya7 yb7 yc7, .string ys1, .int .i64 yn1, .int .i64 yn2, .int .i64 yn3, .slice ya8 yb8 yc8, .string ys2] 44) = W at HZ1 HZ2 HBZ HSM ⊢
  have f0 := block_cell HZ1.out 0
  have f1 := block_cell HZ1.out 1
  have f2 := block_cell HZ1.out 2
  have f3 := block_cell HZ1.out 3
  have f4 := block_cell HZ1.out 4
  have f5 := block_cell HZ1.out 5
  have f6 := block_cell HZ1.out 6
  have f7 := block_cell HZ1.out 7
  have f8 := block_cell HZ1.out 8
  have f9 := block_cell HZ1.out 9
  have f10 := block_cell HZ1.out 10
  have f11 := block_cell HZ1.out 11
  have f12 := block_cell HZ1.out 12
  have f13 := block_cell HZ1.out 13
  simp only [List.getElem?_toArray, List.getElem?_cons_zero, List.getElem?_cons_succ] at f0 f1 f2 f3 f4 f5 f6 f7 f8 f9 f10 f11 f12 f13
  have g0 := block_cell HZ2.out 0
  have g1 := block_cell HZ2.out 1
  have g2 := block_cell HZ2.out 2
  have g3 := block_cell HZ2.out 3
  have g4 := block_cell HZ2.out 4
  have g5 := block_cell HZ2.out 5
  have g6 := block_cell HZ2.out 6
  have g7 := block_cell HZ2.out 7
  have g8 := block_cell HZ2.out 8
  have g9 := block_cell HZ2.out 9
  have g10 := block_cell HZ2.out 10
  have g11 := block_cell HZ2.out 11
  have g12 := block_cell HZ2.out 12
  have g13 := block_cell HZ2.out 13
  simp only [List.getElem?_toArray, List.getElem?_cons_zero, List.getElem?_cons_succ] at g0 g1 g2 g3 g4 g5 g6 g7 g8 g9 g10 g11 g12 g13
  clear HZ1 HZ2 HR1 HQ1a HB610 HB10 HQ2
  go_wp2_with fail
  refine HSM.out.mono ?_
  rintro x w11 ⟨rfl, hb11⟩
  have HB11 := Lib.hid (HBZ.out.trans (hb11.mono HBZ.out.size))
  clear hb11 f0 g0 f1 g1 f2 g2 f3 g3 f4 g4 f5 g5 f6 g6 f7 g7 f8 g8 f9 g9 f10 g10 f11 g11 f12 g12 f13 g13
  go_wp2
  go_ret
  exact ⟨rfl, HB11.out⟩
theorem messageBack_walk (d : Dr) (a : Int) (ha : (Lit.int .u8 a).wf = true) (w : World) (hr : d.Reads w) :
    Calls Try.prog 3 #[d.val, .int .u8 a] w fun r w' => r = .returned (.bool true) ∧ Below w.heap.size w w' := by
  obtain ⟨b, rfl⟩ := byte_of ha
  cases hm : d.msg with
  | none => exact back_none d b w hr hm
  | some m =>
    cases hrt : m.right with
    | false => exact back_bad d b w hr m hm hrt
    | true => exact back_good d b w hr m hm hrt

set_option maxRecDepth 100000 in
theorem messageBack_lifted (os : Os) (started : os.Started) (H : Type) (enc : TypeId × Value → H) :
    ReturnsInHanded {} Try.checked os 3 .any (Rows.messageBackSpec.pre6 enc Try.prog Try.f3 Rows.messageBackRow.domain false) (Rows.messageBackSpec.post enc Try.prog Try.f3 false true false false) := by
  refine returnsInHanded_of_change (C := Try.checked) messageBack_own started (by kernel_rfl) Try.func3
    (ChangeSpec.witness6 (enc := enc) (C := Try.checked) false ⟨#[], #[.agg #[.int .i64 0, .int .i64 0, .int .i64 0, .int .i64 0, .int .i64 0, .int .i64 0, .int .i64 0, .slice none 0 0, .slice none 0 0, .slice none 0 0, .slice none 0 0, .slice none 0 0, .slice none 0 0, .string ByteArray.empty, .int .i64 0, .int .i64 0, .int .i64 0, .slice none 0 0, .string ByteArray.empty], .int .u8 0], []⟩ 8 (by kernel_rfl) (by kernel_rfl) (by kernel_rfl) (by kernel_rfl)) ?_
  intro W base args ds gs before hval0 hW _ _
  have hval : ∀ (j : Nat) t v, Try.f3.params[j]? = some t → args[j]? = some v → Value.okWide Try.prog W .any base t v := hval0
  have hW' := hW
  obtain ⟨p, q, hA0, hV, rfl, hfz, hnd⟩ := hW
  have hA : DataW.TrodAll enc Try.prog W 0 (fun _ => true) true Try.f3.params.toList args.toList ds p := hA0
  rw [Try.params3] at hA hval
  obtain ⟨v0, vs0, d0, ds0, p0, q0, hargs, rfl, rfl, h0, r0⟩ := trodAll_cons hA
  obtain ⟨v1, vs1, d1, ds1, p1, q1, rfl, rfl, rfl, h1, r1⟩ := trodAll_cons r0
  obtain ⟨rfl, rfl, rfl⟩ := trodAll_nil r1
  obtain rfl : args = #[v0, v1] := by cases args; simp_all
  obtain ⟨rfl, rfl⟩ := trodVars_none hV
  have k0 := h0
  have lt0 : ∀ x ∈ p0, x.block < W.heap.size := by obtain ⟨m, hm⟩ := k0; exact DataW.trod_lt m _ _ _ hm
  obtain ⟨dr0, rfl, w0⟩ := arg_draw (hval 0 30 v0 rfl rfl) h0
  obtain ⟨a1, rfl, rfl, rfl, w1⟩ := open_int Try.underlying5 (hval 1 5 v1 rfl rfl) h1
  clear hA0 hval0
  refine (messageBack_walk dr0 a1 w1 W w0).mono fun e W' ⟨he, bel⟩ => ?_
  subst he
  exact ⟨_, rfl, _, _, _, [], _, [], hW', trodAll_mk1 (shut_bool Try.underlying4 _), (trodAll_cons_mk (Below.trod messageBack_laid (by kernel_rfl) (of_decide_eq_true (by kernel_rfl)) k0 bel lt0) (trodAll_cons_mk (shut_int Try.underlying5 w1) trodAll_mk0)), rfl, bel.frame _, fun h => by cases h⟩

theorem messageBack_holds : Rows.MessageBackSaid :=
  OpenClaim.holds_of_wide 3 Try.f3 rfl rfl rfl rfl rfl rfl rfl ⟨rfl, rfl, rfl, rfl, rfl⟩ rfl rfl rfl rfl rfl (by kernel_rfl) Try.func3 (by kernel_rfl)
    (of_decide_eq_true (by kernel_rfl)) (by unfold Func.isWrapper; first | (rw [if_pos (by decide +kernel)]; kernel_rfl) | (rw [if_neg (by decide +kernel)]; exact ⟨rfl, rfl⟩))
    (fun os started H enc _ => messageBack_lifted os started H enc)
#print axioms messageBack_holds

end Go.Proofs.Ytljcgpdjhjkciaa
