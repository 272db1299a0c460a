/-
  The writer of package message at each message: master, chain, client.
-/
import Derived.Test.YtljcgpdjhjkciaaGreatMsgAssert
namespace Go.Proofs.YtljcgpdjhjkciaaGreat
open Go.RowKit
attribute [local go_sem] ext_Bd ext_Bl ext_Bt toList_B add_B size_B get_Bt

/-- The writer, and what was left of all else since world W. -/
structure WA (p : Nat) (o : St) (N0 : Nat) (W w : World) : Prop where
  at_ : WrAt p o N0 w
  wr : Wrote p W w
theorem WA.new {p N0 : Nat} {o : St} {W w : World} (h : WA p o N0 W w) (ob : Obj) : WA p o N0 W (w.alloc ob) := ⟨h.at_.new ob, h.wr.new h.at_.lt ob⟩
theorem WA.call {p N0 : Nat} {o : St} {W w w' : World} (h : WA p o N0 W w) (hb : Below w.heap.size w w') : WA p o N0 W w' := ⟨h.at_.call hb, h.wr.call h.at_.lt hb⟩
theorem WA.next {p N0 N1 : Nat} {o o1 : St} {W w w' : World} (h : WA p o N0 W w) (h1 : WrAt p o1 N1 w') (h2 : Wrote p w w') : WA p o1 N1 W w' := ⟨h1, h.wr.trans h2⟩
theorem E.putBat_ne (b : E.Bat) : decide (E.putBat b ≠ []) = decide (E.fits b = 0) := by
  by_cases h : E.fits b = 0
  · have : E.putBat b ≠ [] := by
      rw [E.putBat_ok h]
      unfold E.bytes N.putT
      have := N.putL_ne b.stream.length
      simp [this]
    simp [this, h]
  · simp [E.putBat_bad h, h]
theorem E.putBat_len (b : E.Bat) : (E.putBat b).length ≤ 20000 := by
  by_cases h : E.fits b = 0
  · rw [E.putBat_ok h]; exact E.bytes_len h
  · rw [E.putBat_bad h]; simp
theorem new_at {w : World} {ob : Obj} {q : Nat} (h : w.heap.size = q) : (w.alloc ob).heap[q]? = some ob := by subst h; exact World.alloc_heap_new w ob
theorem new_at2 {w : World} {ob ob2 : Obj} {q : Nat} (h : w.heap.size = q) : ((w.alloc ob).alloc ob2).heap[q]? = some ob := by
  subst h
  rw [Below.heap_alloc _ _ _ (by simp)]
  exact World.alloc_heap_new w ob

set_option maxHeartbeats 1000000 in
set_option maxRecDepth 100000 in
theorem master_skip {p N0 : Nat} {o : St} {w : World} (u : TypeId) (v : Value) (h0 : u ≠ 57) (h1 : u ≠ 59) (h2 : u ≠ 61) (h3 : u ≠ 63) (h4 : u ≠ 65) (h : WrAt p o N0 w) :
    Calls Tryz.prog 21 #[rdP p, .iface u v] w fun x w' => x = .returned (.tuple #[]) ∧ WrAt p o N0 w' ∧ Wrote p w w' := by
  have a0 := fun W => Tryz.no_beat u v W h0
  have a1 := fun W => Tryz.no_join u v W h1
  have a2 := fun W => Tryz.no_lease u v W h2
  have a3 := fun W => Tryz.no_view u v W h3
  have a4 := fun W => Tryz.no_where u v W h4
  have HW : Hid (WA p o N0 w w) := Lib.hid ⟨h, Wrote.refl _ _⟩
  clear h h0 h1 h2 h3 h4
  go_enter Tryz.func21, Tryz.ntmps21
  go_wp2
  go_returns
  have hf := (((((HW.out.new (.cells #[.int .i64 0, .int .i64 0, .int .i64 0] 57)).new (.cells #[.int .i64 0, .int .i64 0] 59)).new (.cells #[.int .i64 0, .int .i64 0] 61)).new (.cells #[.int .i64 0, .slice none 0 0, .slice none 0 0, .slice none 0 0] 63)).new (.cells #[.int .i64 0] 65))
  exact ⟨rfl, hf.at_, hf.wr⟩

set_option maxHeartbeats 1000000 in
set_option maxRecDepth 100000 in
theorem master_nil {p N0 : Nat} {o : St} {w : World} (h : WrAt p o N0 w) :
    Calls Tryz.prog 21 #[rdP p, .nilIface] w fun x w' => x = .returned (.tuple #[]) ∧ WrAt p o N0 w' ∧ Wrote p w w' := by
  have a0 := Tryz.nil_beat
  have a1 := Tryz.nil_join
  have a2 := Tryz.nil_lease
  have a3 := Tryz.nil_view
  have a4 := Tryz.nil_where
  have HW : Hid (WA p o N0 w w) := Lib.hid ⟨h, Wrote.refl _ _⟩
  clear h
  go_enter Tryz.func21, Tryz.ntmps21
  go_wp2
  go_returns
  have hf := (((((HW.out.new (.cells #[.int .i64 0, .int .i64 0, .int .i64 0] 57)).new (.cells #[.int .i64 0, .int .i64 0] 59)).new (.cells #[.int .i64 0, .int .i64 0] 61)).new (.cells #[.int .i64 0, .slice none 0 0, .slice none 0 0, .slice none 0 0] 63)).new (.cells #[.int .i64 0] 65))
  exact ⟨rfl, hf.at_, hf.wr⟩

set_option maxHeartbeats 2000000 in
set_option maxRecDepth 100000 in
theorem master_beat {p N0 : Nat} {o : St} {w : World} (n1 n2 n3 : Int) (h : WrAt p o N0 w) (hl : N0 + 300000 ≤ 100000000) :
    Calls Tryz.prog 21 #[rdP p, .iface 57 (.agg #[.int .i64 n1, .int .i64 n2, .int .i64 n3])] w fun x w' => x = .returned (.tuple #[]) ∧ WrAt p (put1 ([n1, n2, n3].all M.numR) (1 :: [n1, n2, n3].flatMap M.putI) o) (N0 + 200000) w' ∧ Wrote p w w' := by
  have hlt := h.lt
  have as0 := fun v W => Tryz.yes_beat v W
  have as1 := fun v W => Tryz.no_join 57 v W (by decide)
  have as2 := fun v W => Tryz.no_lease 57 v W (by decide)
  have as3 := fun v W => Tryz.no_view 57 v W (by decide)
  have as4 := fun v W => Tryz.no_where 57 v W (by decide)
  have hmf : ∀ (fn : Fn) (first cap : Array Value) (w : World), (Instr.makeFunc fn first cap).run Tryz.prog w = .ok (.func fn first cap) w := fun _ _ _ _ => rfl
  have HW : Hid (WA p o N0 w w) := Lib.hid ⟨h, Wrote.refl _ _⟩
  clear h
  go_enter Tryz.func21, Tryz.ntmps21
  go_wp2_with fail
  have hf := ((HW.out.new (.cells #[.int .i64 n1, .int .i64 n2, .int .i64 n3] 57)).new (.cells (intsA [n1, n2, n3]) 3))
  have HF := Lib.hid hf
  clear hf
  refine (wr_begin 1 [n1, n2, n3] (by decide) HF.out.at_ (new_at (by simp)) (by omega) (by simp) (by omega)).mono ?_
  rintro x w1 ⟨rfl, h1, h2⟩
  have hbx := h2.high (w.heap.size) (.cells #[.int .i64 n1, .int .i64 n2, .int .i64 n3] 57) (by omega) (new_at2 (by simp)) (fun cs f e => by cases e)
  have H := Lib.hid (HF.out.next h1 h2)
  have HBX := Lib.hid hbx
  clear h1 h2 hbx HF HW
  go_wp2
  go_returns
  have hf := ((((H.out.new (.cells #[.int .i64 0, .int .i64 0] 59)).new (.cells #[.int .i64 0, .int .i64 0] 61)).new (.cells #[.int .i64 0, .slice none 0 0, .slice none 0 0, .slice none 0 0] 63)).new (.cells #[.int .i64 0] 65))
  exact ⟨rfl, hf.at_.mono (by omega), hf.wr⟩

set_option maxHeartbeats 2000000 in
set_option maxRecDepth 100000 in
theorem master_join {p N0 : Nat} {o : St} {w : World} (n1 n2 : Int) (h : WrAt p o N0 w) (hl : N0 + 300000 ≤ 100000000) :
    Calls Tryz.prog 21 #[rdP p, .iface 59 (.agg #[.int .i64 n1, .int .i64 n2])] w fun x w' => x = .returned (.tuple #[]) ∧ WrAt p (put1 ([n1, n2].all M.numR) (2 :: [n1, n2].flatMap M.putI) o) (N0 + 200000) w' ∧ Wrote p w w' := by
  have hlt := h.lt
  have as0 := fun v W => Tryz.no_beat 59 v W (by decide)
  have as1 := fun v W => Tryz.yes_join v W
  have as2 := fun v W => Tryz.no_lease 59 v W (by decide)
  have as3 := fun v W => Tryz.no_view 59 v W (by decide)
  have as4 := fun v W => Tryz.no_where 59 v W (by decide)
  have hmf : ∀ (fn : Fn) (first cap : Array Value) (w : World), (Instr.makeFunc fn first cap).run Tryz.prog w = .ok (.func fn first cap) w := fun _ _ _ _ => rfl
  have HW : Hid (WA p o N0 w w) := Lib.hid ⟨h, Wrote.refl _ _⟩
  clear h
  go_enter Tryz.func21, Tryz.ntmps21
  go_wp2_with fail
  have hf := (((HW.out.new (.cells #[.int .i64 0, .int .i64 0, .int .i64 0] 57)).new (.cells #[.int .i64 n1, .int .i64 n2] 59)).new (.cells (intsA [n1, n2]) 3))
  have HF := Lib.hid hf
  clear hf
  refine (wr_begin 2 [n1, n2] (by decide) HF.out.at_ (new_at (by simp)) (by omega) (by simp) (by omega)).mono ?_
  rintro x w1 ⟨rfl, h1, h2⟩
  have hbx := h2.high (w.heap.size + 1) (.cells #[.int .i64 n1, .int .i64 n2] 59) (by omega) (new_at2 (by simp)) (fun cs f e => by cases e)
  have H := Lib.hid (HF.out.next h1 h2)
  have HBX := Lib.hid hbx
  clear h1 h2 hbx HF HW
  go_wp2
  go_returns
  have hf := (((H.out.new (.cells #[.int .i64 0, .int .i64 0] 61)).new (.cells #[.int .i64 0, .slice none 0 0, .slice none 0 0, .slice none 0 0] 63)).new (.cells #[.int .i64 0] 65))
  exact ⟨rfl, hf.at_.mono (by omega), hf.wr⟩

set_option maxHeartbeats 2000000 in
set_option maxRecDepth 100000 in
theorem master_lease {p N0 : Nat} {o : St} {w : World} (n1 n2 : Int) (h : WrAt p o N0 w) (hl : N0 + 300000 ≤ 100000000) :
    Calls Tryz.prog 21 #[rdP p, .iface 61 (.agg #[.int .i64 n1, .int .i64 n2])] w fun x w' => x = .returned (.tuple #[]) ∧ WrAt p (put1 ([n1, n2].all M.numR) (3 :: [n1, n2].flatMap M.putI) o) (N0 + 200000) w' ∧ Wrote p w w' := by
  have hlt := h.lt
  have as0 := fun v W => Tryz.no_beat 61 v W (by decide)
  have as1 := fun v W => Tryz.no_join 61 v W (by decide)
  have as2 := fun v W => Tryz.yes_lease v W
  have as3 := fun v W => Tryz.no_view 61 v W (by decide)
  have as4 := fun v W => Tryz.no_where 61 v W (by decide)
  have hmf : ∀ (fn : Fn) (first cap : Array Value) (w : World), (Instr.makeFunc fn first cap).run Tryz.prog w = .ok (.func fn first cap) w := fun _ _ _ _ => rfl
  have HW : Hid (WA p o N0 w w) := Lib.hid ⟨h, Wrote.refl _ _⟩
  clear h
  go_enter Tryz.func21, Tryz.ntmps21
  go_wp2_with fail
  have hf := ((((HW.out.new (.cells #[.int .i64 0, .int .i64 0, .int .i64 0] 57)).new (.cells #[.int .i64 0, .int .i64 0] 59)).new (.cells #[.int .i64 n1, .int .i64 n2] 61)).new (.cells (intsA [n1, n2]) 3))
  have HF := Lib.hid hf
  clear hf
  refine (wr_begin 3 [n1, n2] (by decide) HF.out.at_ (new_at (by simp)) (by omega) (by simp) (by omega)).mono ?_
  rintro x w1 ⟨rfl, h1, h2⟩
  have hbx := h2.high (w.heap.size + 1 + 1) (.cells #[.int .i64 n1, .int .i64 n2] 61) (by omega) (new_at2 (by simp)) (fun cs f e => by cases e)
  have H := Lib.hid (HF.out.next h1 h2)
  have HBX := Lib.hid hbx
  clear h1 h2 hbx HF HW
  go_wp2
  go_returns
  have hf := ((H.out.new (.cells #[.int .i64 0, .slice none 0 0, .slice none 0 0, .slice none 0 0] 63)).new (.cells #[.int .i64 0] 65))
  exact ⟨rfl, hf.at_.mono (by omega), hf.wr⟩

set_option maxHeartbeats 2000000 in
set_option maxRecDepth 100000 in
theorem master_view {p N0 : Nat} {o : St} {w w0 : World} (n1 : Int) (l1 : List Int) (v1 : Value) (l2 : List Int) (v2 : Value) (l3 : List Int) (v3 : Value) (h : WrAt p o N0 w) (hl : N0 + 300000 ≤ 100000000) (hb0 : Below w0.heap.size w0 w) (hp : w0.heap.size ≤ p) (hv1 : ReadsI w0 v1 l1) (hv2 : ReadsI w0 v2 l2) (hv3 : ReadsI w0 v3 l3) :
    Calls Tryz.prog 21 #[rdP p, .iface 63 (.agg #[.int .i64 n1, v1, v2, v3])] w fun x w' => x = .returned (.tuple #[]) ∧ WrAt p (put1 (decide (l3.length ≤ 6) && l3.all M.numR) (N.putL l3.length ++ l3.flatMap M.putI) (put1 (decide (l2.length ≤ 6) && l2.all M.numR) (N.putL l2.length ++ l2.flatMap M.putI) (put1 (decide (l1.length ≤ 6) && l1.all M.numR) (N.putL l1.length ++ l1.flatMap M.putI) (put1 ([n1].all M.numR) (4 :: [n1].flatMap M.putI) o)))) (N0 + 200000) w' ∧ Wrote p w w' := by
  have hlt := h.lt
  have HV1 := Lib.hid hv1
  obtain ⟨a1, c1, rfl, -⟩ := hv1
  have HV2 := Lib.hid hv2
  obtain ⟨a2, c2, rfl, -⟩ := hv2
  have HV3 := Lib.hid hv3
  obtain ⟨a3, c3, rfl, -⟩ := hv3
  have as0 := fun v W => Tryz.no_beat 63 v W (by decide)
  have as1 := fun v W => Tryz.no_join 63 v W (by decide)
  have as2 := fun v W => Tryz.no_lease 63 v W (by decide)
  have as3 := fun v W => Tryz.yes_view v W
  have as4 := fun v W => Tryz.no_where 63 v W (by decide)
  have hmf : ∀ (fn : Fn) (first cap : Array Value) (w : World), (Instr.makeFunc fn first cap).run Tryz.prog w = .ok (.func fn first cap) w := fun _ _ _ _ => rfl
  have HB0 := Lib.hid hb0
  have HW : Hid (WA p o N0 w w) := Lib.hid ⟨h, Wrote.refl _ _⟩
  clear h hb0
  go_enter Tryz.func21, Tryz.ntmps21
  go_wp2_with fail
  have hf := (((((HW.out.new (.cells #[.int .i64 0, .int .i64 0, .int .i64 0] 57)).new (.cells #[.int .i64 0, .int .i64 0] 59)).new (.cells #[.int .i64 0, .int .i64 0] 61)).new (.cells #[.int .i64 n1, .slice a1 l1.length c1, .slice a2 l2.length c2, .slice a3 l3.length c3] 63)).new (.cells (intsA [n1]) 3))
  have HF := Lib.hid hf
  clear hf
  refine (wr_begin 4 [n1] (by decide) HF.out.at_ (new_at (by simp)) (by omega) (by simp) (by omega)).mono ?_
  rintro x w1 ⟨rfl, h1, h2⟩
  have hbx := h2.high (w.heap.size + 1 + 1 + 1) (.cells #[.int .i64 n1, .slice a1 l1.length c1, .slice a2 l2.length c2, .slice a3 l3.length c3] 63) (by omega) (new_at2 (by simp)) (fun cs f e => by cases e)
  have H := Lib.hid (HF.out.next h1 h2)
  have HBX := Lib.hid hbx
  clear h1 h2 hbx HF HW
  have d0 := block_cell HBX.out 0
  have d1 := block_cell HBX.out 1
  have d2 := block_cell HBX.out 2
  have d3 := block_cell HBX.out 3
  simp at d0 d1 d2 d3
  go_wp2_with fail
  refine (wr_list_int l1 _ 6 H.out.at_ (Wrote.below HB0.out hp H.out.wr) hp HV1.out (by omega) (by omega)).mono ?_
  rintro x w2 ⟨rfl, h1, h2⟩
  have hbx := h2.high _ _ (by omega) HBX.out (fun cs f e => by cases e)
  have H2 := Lib.hid (H.out.next h1 h2)
  clear HBX
  have HBX := Lib.hid hbx
  clear hbx
  clear h1 h2 H d0 d1 d2 d3
  have H := H2
  clear H2
  have d0 := block_cell HBX.out 0
  have d1 := block_cell HBX.out 1
  have d2 := block_cell HBX.out 2
  have d3 := block_cell HBX.out 3
  simp at d0 d1 d2 d3
  go_wp2_with fail
  refine (wr_list_int l2 _ 6 H.out.at_ (Wrote.below HB0.out hp H.out.wr) hp HV2.out (by omega) (by omega)).mono ?_
  rintro x w3 ⟨rfl, h1, h2⟩
  have hbx := h2.high _ _ (by omega) HBX.out (fun cs f e => by cases e)
  have H2 := Lib.hid (H.out.next h1 h2)
  clear HBX
  have HBX := Lib.hid hbx
  clear hbx
  clear h1 h2 H d0 d1 d2 d3
  have H := H2
  clear H2
  have d0 := block_cell HBX.out 0
  have d1 := block_cell HBX.out 1
  have d2 := block_cell HBX.out 2
  have d3 := block_cell HBX.out 3
  simp at d0 d1 d2 d3
  go_wp2_with fail
  refine (wr_list_int l3 _ 6 H.out.at_ (Wrote.below HB0.out hp H.out.wr) hp HV3.out (by omega) (by omega)).mono ?_
  rintro x w4 ⟨rfl, h1, h2⟩
  have hbx := h2.high _ _ (by omega) HBX.out (fun cs f e => by cases e)
  have H2 := Lib.hid (H.out.next h1 h2)
  clear HBX
  have HBX := Lib.hid hbx
  clear hbx
  clear h1 h2 H d0 d1 d2 d3
  have H := H2
  clear H2
  go_wp2
  go_returns
  have hf := (H.out.new (.cells #[.int .i64 0] 65))
  exact ⟨rfl, hf.at_.mono (by omega), hf.wr⟩

set_option maxHeartbeats 2000000 in
set_option maxRecDepth 100000 in
theorem master_where {p N0 : Nat} {o : St} {w : World} (n1 : Int) (h : WrAt p o N0 w) (hl : N0 + 300000 ≤ 100000000) :
    Calls Tryz.prog 21 #[rdP p, .iface 65 (.agg #[.int .i64 n1])] w fun x w' => x = .returned (.tuple #[]) ∧ WrAt p (put1 ([n1].all M.numR) (5 :: [n1].flatMap M.putI) o) (N0 + 200000) w' ∧ Wrote p w w' := by
  have hlt := h.lt
  have as0 := fun v W => Tryz.no_beat 65 v W (by decide)
  have as1 := fun v W => Tryz.no_join 65 v W (by decide)
  have as2 := fun v W => Tryz.no_lease 65 v W (by decide)
  have as3 := fun v W => Tryz.no_view 65 v W (by decide)
  have as4 := fun v W => Tryz.yes_where v W
  have hmf : ∀ (fn : Fn) (first cap : Array Value) (w : World), (Instr.makeFunc fn first cap).run Tryz.prog w = .ok (.func fn first cap) w := fun _ _ _ _ => rfl
  have HW : Hid (WA p o N0 w w) := Lib.hid ⟨h, Wrote.refl _ _⟩
  clear h
  go_enter Tryz.func21, Tryz.ntmps21
  go_wp2_with fail
  have hf := ((((((HW.out.new (.cells #[.int .i64 0, .int .i64 0, .int .i64 0] 57)).new (.cells #[.int .i64 0, .int .i64 0] 59)).new (.cells #[.int .i64 0, .int .i64 0] 61)).new (.cells #[.int .i64 0, .slice none 0 0, .slice none 0 0, .slice none 0 0] 63)).new (.cells #[.int .i64 n1] 65)).new (.cells (intsA [n1]) 3))
  have HF := Lib.hid hf
  clear hf
  refine (wr_begin 5 [n1] (by decide) HF.out.at_ (new_at (by simp)) (by omega) (by simp) (by omega)).mono ?_
  rintro x w1 ⟨rfl, h1, h2⟩
  have hbx := h2.high (w.heap.size + 1 + 1 + 1 + 1) (.cells #[.int .i64 n1] 65) (by omega) (new_at2 (by simp)) (fun cs f e => by cases e)
  have H := Lib.hid (HF.out.next h1 h2)
  have HBX := Lib.hid hbx
  clear h1 h2 hbx HF HW
  go_wp2
  go_returns
  have hf := H.out
  exact ⟨rfl, hf.at_.mono (by omega), hf.wr⟩

set_option maxHeartbeats 1000000 in
set_option maxRecDepth 100000 in
theorem chain_skip {p N0 : Nat} {o : St} {w : World} (u : TypeId) (v : Value) (h0 : u ≠ 67) (h1 : u ≠ 69) (h2 : u ≠ 51) (h3 : u ≠ 71) (h4 : u ≠ 73) (h : WrAt p o N0 w) :
    Calls Tryz.prog 22 #[rdP p, .iface u v] w fun x w' => x = .returned (.tuple #[]) ∧ WrAt p o N0 w' ∧ Wrote p w w' := by
  have a0 := fun W => Tryz.no_have u v W h0
  have a1 := fun W => Tryz.no_logs u v W h1
  have a2 := fun W => Tryz.no_ack u v W h2
  have a3 := fun W => Tryz.no_ask u v W h3
  have a4 := fun W => Tryz.no_told u v W h4
  have HW : Hid (WA p o N0 w w) := Lib.hid ⟨h, Wrote.refl _ _⟩
  clear h h0 h1 h2 h3 h4
  go_enter Tryz.func22, Tryz.ntmps22
  go_wp2
  go_returns
  have hf := (((((HW.out.new (.cells #[.int .i64 0, .int .i64 0, .int .i64 0, .slice none 0 0] 67)).new (.cells #[.int .i64 0, .int .i64 0, .int .i64 0, .int .i64 0, .int .i64 0, .int .i64 0, .slice none 0 0] 69)).new (.cells #[.int .i64 0, .int .i64 0, .int .i64 0] 51)).new (.cells #[.int .i64 0, .int .i64 0, .int .i64 0, .int .i64 0] 71)).new (.cells #[.int .i64 0, .int .i64 0, .int .i64 0, .int .i64 0] 73))
  exact ⟨rfl, hf.at_, hf.wr⟩

set_option maxHeartbeats 1000000 in
set_option maxRecDepth 100000 in
theorem chain_nil {p N0 : Nat} {o : St} {w : World} (h : WrAt p o N0 w) :
    Calls Tryz.prog 22 #[rdP p, .nilIface] w fun x w' => x = .returned (.tuple #[]) ∧ WrAt p o N0 w' ∧ Wrote p w w' := by
  have a0 := Tryz.nil_have
  have a1 := Tryz.nil_logs
  have a2 := Tryz.nil_ack
  have a3 := Tryz.nil_ask
  have a4 := Tryz.nil_told
  have HW : Hid (WA p o N0 w w) := Lib.hid ⟨h, Wrote.refl _ _⟩
  clear h
  go_enter Tryz.func22, Tryz.ntmps22
  go_wp2
  go_returns
  have hf := (((((HW.out.new (.cells #[.int .i64 0, .int .i64 0, .int .i64 0, .slice none 0 0] 67)).new (.cells #[.int .i64 0, .int .i64 0, .int .i64 0, .int .i64 0, .int .i64 0, .int .i64 0, .slice none 0 0] 69)).new (.cells #[.int .i64 0, .int .i64 0, .int .i64 0] 51)).new (.cells #[.int .i64 0, .int .i64 0, .int .i64 0, .int .i64 0] 71)).new (.cells #[.int .i64 0, .int .i64 0, .int .i64 0, .int .i64 0] 73))
  exact ⟨rfl, hf.at_, hf.wr⟩

set_option maxHeartbeats 2000000 in
set_option maxRecDepth 100000 in
theorem chain_have {p N0 : Nat} {o : St} {w w0 : World} (n1 n2 n3 : Int) (l1 : List R.Mk) (v1 : Value) (h : WrAt p o N0 w) (hl : N0 + 300000 ≤ 100000000) (hb0 : Below w0.heap.size w0 w) (hp : w0.heap.size ≤ p) (hv1 : ReadsM w0 v1 l1) :
    Calls Tryz.prog 22 #[rdP p, .iface 67 (.agg #[.int .i64 n1, .int .i64 n2, .int .i64 n3, v1])] w fun x w' => x = .returned (.tuple #[]) ∧ WrAt p (put1 (decide (l1.length ≤ 30) && l1.all (fun m => M.numR m.1 && M.numR m.2)) (N.putL l1.length ++ l1.flatMap M.putM) (put1 ([n1, n2, n3].all M.numR) (6 :: [n1, n2, n3].flatMap M.putI) o)) (N0 + 200000) w' ∧ Wrote p w w' := by
  have hlt := h.lt
  have HV1 := Lib.hid hv1
  obtain ⟨a1, c1, rfl, -⟩ := hv1
  have as0 := fun v W => Tryz.yes_have v W
  have as1 := fun v W => Tryz.no_logs 67 v W (by decide)
  have as2 := fun v W => Tryz.no_ack 67 v W (by decide)
  have as3 := fun v W => Tryz.no_ask 67 v W (by decide)
  have as4 := fun v W => Tryz.no_told 67 v W (by decide)
  have hmf : ∀ (fn : Fn) (first cap : Array Value) (w : World), (Instr.makeFunc fn first cap).run Tryz.prog w = .ok (.func fn first cap) w := fun _ _ _ _ => rfl
  have HB0 := Lib.hid hb0
  have HW : Hid (WA p o N0 w w) := Lib.hid ⟨h, Wrote.refl _ _⟩
  clear h hb0
  go_enter Tryz.func22, Tryz.ntmps22
  go_wp2_with fail
  have hf := ((HW.out.new (.cells #[.int .i64 n1, .int .i64 n2, .int .i64 n3, .slice a1 l1.length c1] 67)).new (.cells (intsA [n1, n2, n3]) 3))
  have HF := Lib.hid hf
  clear hf
  refine (wr_begin 6 [n1, n2, n3] (by decide) HF.out.at_ (new_at (by simp)) (by omega) (by simp) (by omega)).mono ?_
  rintro x w1 ⟨rfl, h1, h2⟩
  have hbx := h2.high (w.heap.size) (.cells #[.int .i64 n1, .int .i64 n2, .int .i64 n3, .slice a1 l1.length c1] 67) (by omega) (new_at2 (by simp)) (fun cs f e => by cases e)
  have H := Lib.hid (HF.out.next h1 h2)
  have HBX := Lib.hid hbx
  clear h1 h2 hbx HF HW
  have d0 := block_cell HBX.out 0
  have d1 := block_cell HBX.out 1
  have d2 := block_cell HBX.out 2
  have d3 := block_cell HBX.out 3
  simp at d0 d1 d2 d3
  go_wp2_with fail
  refine (wr_list_mark l1 _ 30 H.out.at_ (Wrote.below HB0.out hp H.out.wr) hp HV1.out (by omega) (by omega)).mono ?_
  rintro x w2 ⟨rfl, h1, h2⟩
  have hbx := h2.high _ _ (by omega) HBX.out (fun cs f e => by cases e)
  have H2 := Lib.hid (H.out.next h1 h2)
  clear HBX
  have HBX := Lib.hid hbx
  clear hbx
  clear h1 h2 H d0 d1 d2 d3
  have H := H2
  clear H2
  go_wp2
  go_returns
  have hf := ((((H.out.new (.cells #[.int .i64 0, .int .i64 0, .int .i64 0, .int .i64 0, .int .i64 0, .int .i64 0, .slice none 0 0] 69)).new (.cells #[.int .i64 0, .int .i64 0, .int .i64 0] 51)).new (.cells #[.int .i64 0, .int .i64 0, .int .i64 0, .int .i64 0] 71)).new (.cells #[.int .i64 0, .int .i64 0, .int .i64 0, .int .i64 0] 73))
  exact ⟨rfl, hf.at_.mono (by omega), hf.wr⟩

set_option maxHeartbeats 2000000 in
set_option maxRecDepth 100000 in
theorem chain_logs {p N0 : Nat} {o : St} {w w0 : World} (n1 n2 n3 n4 n5 n6 : Int) (l1 : List EV) (v1 : Value) (h : WrAt p o N0 w) (hl : N0 + 300000 ≤ 100000000) (hb0 : Below w0.heap.size w0 w) (hp : w0.heap.size ≤ p) (hv1 : ReadsR w0 v1 l1) (hsz : ∀ e ∈ l1, E.Small e.1.b) :
    Calls Tryz.prog 22 #[rdP p, .iface 69 (.agg #[.int .i64 n1, .int .i64 n2, .int .i64 n3, .int .i64 n4, .int .i64 n5, .int .i64 n6, v1])] w fun x w' => x = .returned (.tuple #[]) ∧ WrAt p (put1 (decide (l1.length ≤ 8) && (ensOf l1).all R.right) (N.putL l1.length ++ (ensOf l1).flatMap R.putEn) (put1 ([n1, n2, n3, n4, n5, n6].all M.numR) (7 :: [n1, n2, n3, n4, n5, n6].flatMap M.putI) o)) (N0 + 200000) w' ∧ Wrote p w w' := by
  have hlt := h.lt
  have HV1 := Lib.hid hv1
  obtain ⟨a1, c1, rfl, -⟩ := hv1
  have as0 := fun v W => Tryz.no_have 69 v W (by decide)
  have as1 := fun v W => Tryz.yes_logs v W
  have as2 := fun v W => Tryz.no_ack 69 v W (by decide)
  have as3 := fun v W => Tryz.no_ask 69 v W (by decide)
  have as4 := fun v W => Tryz.no_told 69 v W (by decide)
  have hmf : ∀ (fn : Fn) (first cap : Array Value) (w : World), (Instr.makeFunc fn first cap).run Tryz.prog w = .ok (.func fn first cap) w := fun _ _ _ _ => rfl
  have HB0 := Lib.hid hb0
  have HW : Hid (WA p o N0 w w) := Lib.hid ⟨h, Wrote.refl _ _⟩
  clear h hb0
  go_enter Tryz.func22, Tryz.ntmps22
  go_wp2_with fail
  have hf := (((HW.out.new (.cells #[.int .i64 0, .int .i64 0, .int .i64 0, .slice none 0 0] 67)).new (.cells #[.int .i64 n1, .int .i64 n2, .int .i64 n3, .int .i64 n4, .int .i64 n5, .int .i64 n6, .slice a1 l1.length c1] 69)).new (.cells (intsA [n1, n2, n3, n4, n5, n6]) 3))
  have HF := Lib.hid hf
  clear hf
  refine (wr_begin 7 [n1, n2, n3, n4, n5, n6] (by decide) HF.out.at_ (new_at (by simp)) (by omega) (by simp) (by omega)).mono ?_
  rintro x w1 ⟨rfl, h1, h2⟩
  have hbx := h2.high (w.heap.size + 1) (.cells #[.int .i64 n1, .int .i64 n2, .int .i64 n3, .int .i64 n4, .int .i64 n5, .int .i64 n6, .slice a1 l1.length c1] 69) (by omega) (new_at2 (by simp)) (fun cs f e => by cases e)
  have H := Lib.hid (HF.out.next h1 h2)
  have HBX := Lib.hid hbx
  clear h1 h2 hbx HF HW
  have d0 := block_cell HBX.out 0
  have d1 := block_cell HBX.out 1
  have d2 := block_cell HBX.out 2
  have d3 := block_cell HBX.out 3
  have d4 := block_cell HBX.out 4
  have d5 := block_cell HBX.out 5
  have d6 := block_cell HBX.out 6
  simp at d0 d1 d2 d3 d4 d5 d6
  go_wp2_with fail
  refine (wr_list_entry l1 _ 8 H.out.at_ (Wrote.below HB0.out hp H.out.wr) hp HV1.out (by omega) (by omega) hsz).mono ?_
  rintro x w2 ⟨rfl, h1, h2⟩
  have hbx := h2.high _ _ (by omega) HBX.out (fun cs f e => by cases e)
  have H2 := Lib.hid (H.out.next h1 h2)
  clear HBX
  have HBX := Lib.hid hbx
  clear hbx
  clear h1 h2 H d0 d1 d2 d3 d4 d5 d6
  have H := H2
  clear H2
  go_wp2
  go_returns
  have hf := (((H.out.new (.cells #[.int .i64 0, .int .i64 0, .int .i64 0] 51)).new (.cells #[.int .i64 0, .int .i64 0, .int .i64 0, .int .i64 0] 71)).new (.cells #[.int .i64 0, .int .i64 0, .int .i64 0, .int .i64 0] 73))
  exact ⟨rfl, hf.at_.mono (by omega), hf.wr⟩

set_option maxHeartbeats 2000000 in
set_option maxRecDepth 100000 in
theorem chain_ack {p N0 : Nat} {o : St} {w : World} (n1 n2 n3 : Int) (h : WrAt p o N0 w) (hl : N0 + 300000 ≤ 100000000) :
    Calls Tryz.prog 22 #[rdP p, .iface 51 (.agg #[.int .i64 n1, .int .i64 n2, .int .i64 n3])] w fun x w' => x = .returned (.tuple #[]) ∧ WrAt p (put1 ([n1, n2, n3].all M.numR) (8 :: [n1, n2, n3].flatMap M.putI) o) (N0 + 200000) w' ∧ Wrote p w w' := by
  have hlt := h.lt
  have as0 := fun v W => Tryz.no_have 51 v W (by decide)
  have as1 := fun v W => Tryz.no_logs 51 v W (by decide)
  have as2 := fun v W => Tryz.yes_ack v W
  have as3 := fun v W => Tryz.no_ask 51 v W (by decide)
  have as4 := fun v W => Tryz.no_told 51 v W (by decide)
  have hmf : ∀ (fn : Fn) (first cap : Array Value) (w : World), (Instr.makeFunc fn first cap).run Tryz.prog w = .ok (.func fn first cap) w := fun _ _ _ _ => rfl
  have HW : Hid (WA p o N0 w w) := Lib.hid ⟨h, Wrote.refl _ _⟩
  clear h
  go_enter Tryz.func22, Tryz.ntmps22
  go_wp2_with fail
  have hf := ((((HW.out.new (.cells #[.int .i64 0, .int .i64 0, .int .i64 0, .slice none 0 0] 67)).new (.cells #[.int .i64 0, .int .i64 0, .int .i64 0, .int .i64 0, .int .i64 0, .int .i64 0, .slice none 0 0] 69)).new (.cells #[.int .i64 n1, .int .i64 n2, .int .i64 n3] 51)).new (.cells (intsA [n1, n2, n3]) 3))
  have HF := Lib.hid hf
  clear hf
  refine (wr_begin 8 [n1, n2, n3] (by decide) HF.out.at_ (new_at (by simp)) (by omega) (by simp) (by omega)).mono ?_
  rintro x w1 ⟨rfl, h1, h2⟩
  have hbx := h2.high (w.heap.size + 1 + 1) (.cells #[.int .i64 n1, .int .i64 n2, .int .i64 n3] 51) (by omega) (new_at2 (by simp)) (fun cs f e => by cases e)
  have H := Lib.hid (HF.out.next h1 h2)
  have HBX := Lib.hid hbx
  clear h1 h2 hbx HF HW
  go_wp2
  go_returns
  have hf := ((H.out.new (.cells #[.int .i64 0, .int .i64 0, .int .i64 0, .int .i64 0] 71)).new (.cells #[.int .i64 0, .int .i64 0, .int .i64 0, .int .i64 0] 73))
  exact ⟨rfl, hf.at_.mono (by omega), hf.wr⟩

set_option maxHeartbeats 2000000 in
set_option maxRecDepth 100000 in
theorem chain_ask {p N0 : Nat} {o : St} {w : World} (n1 n2 n3 n4 : Int) (h : WrAt p o N0 w) (hl : N0 + 300000 ≤ 100000000) :
    Calls Tryz.prog 22 #[rdP p, .iface 71 (.agg #[.int .i64 n1, .int .i64 n2, .int .i64 n3, .int .i64 n4])] w fun x w' => x = .returned (.tuple #[]) ∧ WrAt p (put1 ([n1, n2, n3, n4].all M.numR) (9 :: [n1, n2, n3, n4].flatMap M.putI) o) (N0 + 200000) w' ∧ Wrote p w w' := by
  have hlt := h.lt
  have as0 := fun v W => Tryz.no_have 71 v W (by decide)
  have as1 := fun v W => Tryz.no_logs 71 v W (by decide)
  have as2 := fun v W => Tryz.no_ack 71 v W (by decide)
  have as3 := fun v W => Tryz.yes_ask v W
  have as4 := fun v W => Tryz.no_told 71 v W (by decide)
  have hmf : ∀ (fn : Fn) (first cap : Array Value) (w : World), (Instr.makeFunc fn first cap).run Tryz.prog w = .ok (.func fn first cap) w := fun _ _ _ _ => rfl
  have HW : Hid (WA p o N0 w w) := Lib.hid ⟨h, Wrote.refl _ _⟩
  clear h
  go_enter Tryz.func22, Tryz.ntmps22
  go_wp2_with fail
  have hf := (((((HW.out.new (.cells #[.int .i64 0, .int .i64 0, .int .i64 0, .slice none 0 0] 67)).new (.cells #[.int .i64 0, .int .i64 0, .int .i64 0, .int .i64 0, .int .i64 0, .int .i64 0, .slice none 0 0] 69)).new (.cells #[.int .i64 0, .int .i64 0, .int .i64 0] 51)).new (.cells #[.int .i64 n1, .int .i64 n2, .int .i64 n3, .int .i64 n4] 71)).new (.cells (intsA [n1, n2, n3, n4]) 3))
  have HF := Lib.hid hf
  clear hf
  refine (wr_begin 9 [n1, n2, n3, n4] (by decide) HF.out.at_ (new_at (by simp)) (by omega) (by simp) (by omega)).mono ?_
  rintro x w1 ⟨rfl, h1, h2⟩
  have hbx := h2.high (w.heap.size + 1 + 1 + 1) (.cells #[.int .i64 n1, .int .i64 n2, .int .i64 n3, .int .i64 n4] 71) (by omega) (new_at2 (by simp)) (fun cs f e => by cases e)
  have H := Lib.hid (HF.out.next h1 h2)
  have HBX := Lib.hid hbx
  clear h1 h2 hbx HF HW
  go_wp2
  go_returns
  have hf := (H.out.new (.cells #[.int .i64 0, .int .i64 0, .int .i64 0, .int .i64 0] 73))
  exact ⟨rfl, hf.at_.mono (by omega), hf.wr⟩

set_option maxHeartbeats 2000000 in
set_option maxRecDepth 100000 in
theorem chain_told {p N0 : Nat} {o : St} {w : World} (n1 n2 n3 n4 : Int) (h : WrAt p o N0 w) (hl : N0 + 300000 ≤ 100000000) :
    Calls Tryz.prog 22 #[rdP p, .iface 73 (.agg #[.int .i64 n1, .int .i64 n2, .int .i64 n3, .int .i64 n4])] w fun x w' => x = .returned (.tuple #[]) ∧ WrAt p (put1 ([n1, n2, n3, n4].all M.numR) (10 :: [n1, n2, n3, n4].flatMap M.putI) o) (N0 + 200000) w' ∧ Wrote p w w' := by
  have hlt := h.lt
  have as0 := fun v W => Tryz.no_have 73 v W (by decide)
  have as1 := fun v W => Tryz.no_logs 73 v W (by decide)
  have as2 := fun v W => Tryz.no_ack 73 v W (by decide)
  have as3 := fun v W => Tryz.no_ask 73 v W (by decide)
  have as4 := fun v W => Tryz.yes_told v W
  have hmf : ∀ (fn : Fn) (first cap : Array Value) (w : World), (Instr.makeFunc fn first cap).run Tryz.prog w = .ok (.func fn first cap) w := fun _ _ _ _ => rfl
  have HW : Hid (WA p o N0 w w) := Lib.hid ⟨h, Wrote.refl _ _⟩
  clear h
  go_enter Tryz.func22, Tryz.ntmps22
  go_wp2_with fail
  have hf := ((((((HW.out.new (.cells #[.int .i64 0, .int .i64 0, .int .i64 0, .slice none 0 0] 67)).new (.cells #[.int .i64 0, .int .i64 0, .int .i64 0, .int .i64 0, .int .i64 0, .int .i64 0, .slice none 0 0] 69)).new (.cells #[.int .i64 0, .int .i64 0, .int .i64 0] 51)).new (.cells #[.int .i64 0, .int .i64 0, .int .i64 0, .int .i64 0] 71)).new (.cells #[.int .i64 n1, .int .i64 n2, .int .i64 n3, .int .i64 n4] 73)).new (.cells (intsA [n1, n2, n3, n4]) 3))
  have HF := Lib.hid hf
  clear hf
  refine (wr_begin 10 [n1, n2, n3, n4] (by decide) HF.out.at_ (new_at (by simp)) (by omega) (by simp) (by omega)).mono ?_
  rintro x w1 ⟨rfl, h1, h2⟩
  have hbx := h2.high (w.heap.size + 1 + 1 + 1 + 1) (.cells #[.int .i64 n1, .int .i64 n2, .int .i64 n3, .int .i64 n4] 73) (by omega) (new_at2 (by simp)) (fun cs f e => by cases e)
  have H := Lib.hid (HF.out.next h1 h2)
  have HBX := Lib.hid hbx
  clear h1 h2 hbx HF HW
  go_wp2
  go_returns
  have hf := H.out
  exact ⟨rfl, hf.at_.mono (by omega), hf.wr⟩

set_option maxHeartbeats 1000000 in
set_option maxRecDepth 100000 in
theorem client_skip {p N0 : Nat} {o : St} {w : World} (u : TypeId) (v : Value) (h0 : u ≠ 75) (h1 : u ≠ 77) (h2 : u ≠ 81) (h3 : u ≠ 83) (h : WrAt p o N0 w) :
    Calls Tryz.prog 23 #[rdP p, .iface u v] w fun x w' => x = .returned (.tuple #[]) ∧ WrAt p o N0 w' ∧ Wrote p w w' := by
  have a0 := fun W => Tryz.no_append u v W h0
  have a1 := fun W => Tryz.no_read u v W h1
  have a2 := fun W => Tryz.no_reply u v W h2
  have a3 := fun W => Tryz.no_result u v W h3
  have HW : Hid (WA p o N0 w w) := Lib.hid ⟨h, Wrote.refl _ _⟩
  clear h h0 h1 h2 h3
  go_enter Tryz.func23, Tryz.ntmps23
  go_wp2
  go_returns
  have hf := ((((HW.out.new (.cells #[.int .i64 0, .string ⟨#[]⟩, .int .i64 0, .int .i64 0, .int .i64 0, .slice none 0 0] 75)).new (.cells #[.int .i64 0, .string ⟨#[]⟩, .int .i64 0] 77)).new (.cells #[.int .i64 0, .int .i64 0, .int .i64 0, .int .i64 0, .int .i64 0, .int .i64 0] 81)).new (.cells #[.int .i64 0, .int .i64 0, .int .i64 0, .slice none 0 0] 83))
  exact ⟨rfl, hf.at_, hf.wr⟩

set_option maxHeartbeats 1000000 in
set_option maxRecDepth 100000 in
theorem client_nil {p N0 : Nat} {o : St} {w : World} (h : WrAt p o N0 w) :
    Calls Tryz.prog 23 #[rdP p, .nilIface] w fun x w' => x = .returned (.tuple #[]) ∧ WrAt p o N0 w' ∧ Wrote p w w' := by
  have a0 := Tryz.nil_append
  have a1 := Tryz.nil_read
  have a2 := Tryz.nil_reply
  have a3 := Tryz.nil_result
  have HW : Hid (WA p o N0 w w) := Lib.hid ⟨h, Wrote.refl _ _⟩
  clear h
  go_enter Tryz.func23, Tryz.ntmps23
  go_wp2
  go_returns
  have hf := ((((HW.out.new (.cells #[.int .i64 0, .string ⟨#[]⟩, .int .i64 0, .int .i64 0, .int .i64 0, .slice none 0 0] 75)).new (.cells #[.int .i64 0, .string ⟨#[]⟩, .int .i64 0] 77)).new (.cells #[.int .i64 0, .int .i64 0, .int .i64 0, .int .i64 0, .int .i64 0, .int .i64 0] 81)).new (.cells #[.int .i64 0, .int .i64 0, .int .i64 0, .slice none 0 0] 83))
  exact ⟨rfl, hf.at_, hf.wr⟩

set_option maxHeartbeats 2000000 in
set_option maxRecDepth 100000 in
theorem client_append {p N0 : Nat} {o : St} {w w0 : World} (n1 : Int) (bt : E.Bat) (v1 : Value) (h : WrAt p o N0 w) (hl : N0 + 300000 ≤ 100000000) (hb0 : Below w0.heap.size w0 w) (hp : w0.heap.size ≤ p) (hv1 : ReadsE w0 v1 bt.events) (hsz : E.Small bt) :
    Calls Tryz.prog 23 #[rdP p, .iface 75 (.agg #[.int .i64 n1, .string (B bt.stream), .int .i64 bt.expect, .int .i64 bt.session, .int .i64 bt.seq, v1])] w fun x w' => x = .returned (.tuple #[]) ∧ WrAt p (put1 (decide (E.fits bt = 0)) (E.putBat bt) (put1 ([n1].all M.numR) (11 :: [n1].flatMap M.putI) o)) (N0 + 200000) w' ∧ Wrote p w w' := by
  have hlt := h.lt
  have HV1 := Lib.hid hv1
  obtain ⟨a1, c1, rfl, -⟩ := hv1
  have as0 := fun v W => Tryz.yes_append v W
  have as1 := fun v W => Tryz.no_read 75 v W (by decide)
  have as2 := fun v W => Tryz.no_reply 75 v W (by decide)
  have as3 := fun v W => Tryz.no_result 75 v W (by decide)
  have hmf : ∀ (fn : Fn) (first cap : Array Value) (w : World), (Instr.makeFunc fn first cap).run Tryz.prog w = .ok (.func fn first cap) w := fun _ _ _ _ => rfl
  have HB0 := Lib.hid hb0
  have HW : Hid (WA p o N0 w w) := Lib.hid ⟨h, Wrote.refl _ _⟩
  clear h hb0
  go_enter Tryz.func23, Tryz.ntmps23
  go_wp2_with fail
  have hf := ((HW.out.new (.cells #[.int .i64 n1, .string (B bt.stream), .int .i64 bt.expect, .int .i64 bt.session, .int .i64 bt.seq, .slice a1 bt.events.length c1] 75)).new (.cells (intsA [n1]) 3))
  have HF := Lib.hid hf
  clear hf
  refine (wr_begin 11 [n1] (by decide) HF.out.at_ (new_at (by simp)) (by omega) (by simp) (by omega)).mono ?_
  rintro x w1 ⟨rfl, h1, h2⟩
  have hbx := h2.high (w.heap.size) (.cells #[.int .i64 n1, .string (B bt.stream), .int .i64 bt.expect, .int .i64 bt.session, .int .i64 bt.seq, .slice a1 bt.events.length c1] 75) (by omega) (new_at2 (by simp)) (fun cs f e => by cases e)
  have H := Lib.hid (HF.out.next h1 h2)
  have HBX := Lib.hid hbx
  clear h1 h2 hbx HF HW
  have d0 := block_cell HBX.out 0
  have d1 := block_cell HBX.out 1
  have d2 := block_cell HBX.out 2
  have d3 := block_cell HBX.out 3
  have d4 := block_cell HBX.out 4
  have d5 := block_cell HBX.out 5
  simp at d0 d1 d2 d3 d4 d5
  obtain ⟨pb, HPB⟩ : ∃ pb, Hid (E.putBat bt = pb) := ⟨_, Lib.hid rfl⟩
  have hpl := E.putBat_len bt
  have HNE := Lib.hid (E.putBat_ne bt)
  rw [HPB.out] at hpl HNE
  go_wp2_with fail
  refine (EPutBat_at bt _ pb _ (readsE_below HV1.out (Wrote.below HB0.out hp H.out.wr)) hsz HPB).mono ?_
  rintro x w2 ⟨rfl, hb⟩
  have H2 := Lib.hid (H.out.call hb)
  clear hb H
  have H := H2
  clear H2
  go_wp2_with fail
  refine (wr_whole pb H.out.at_ (by omega)).mono ?_
  rintro x w3 ⟨rfl, h1, h2⟩
  rw [HNE.out, ← HPB.out] at h1
  have hpl3 := E.putBat_len bt
  have H2 := Lib.hid (H.out.next h1 h2)
  clear h1 h2 H
  have H := H2
  clear H2
  go_wp2
  go_returns
  have hf := (((H.out.new (.cells #[.int .i64 0, .string ⟨#[]⟩, .int .i64 0] 77)).new (.cells #[.int .i64 0, .int .i64 0, .int .i64 0, .int .i64 0, .int .i64 0, .int .i64 0] 81)).new (.cells #[.int .i64 0, .int .i64 0, .int .i64 0, .slice none 0 0] 83))
  exact ⟨rfl, hf.at_.mono (by omega), hf.wr⟩

set_option maxHeartbeats 2000000 in
set_option maxRecDepth 100000 in
theorem client_read {p N0 : Nat} {o : St} {w : World} (n1 n2 : Int) (s : List UInt8) (h : WrAt p o N0 w) (hl : N0 + 300000 ≤ 100000000) (hsz : s.length ≤ 9223372036854775807) :
    Calls Tryz.prog 23 #[rdP p, .iface 77 (.agg #[.int .i64 n1, .string (B s), .int .i64 n2])] w fun x w' => x = .returned (.tuple #[]) ∧ WrAt p (put1 (M.numR n2) (M.putI n2) (put1 (nameL s) (N.putT s) (put1 ([n1].all M.numR) (12 :: [n1].flatMap M.putI) o))) (N0 + 200000) w' ∧ Wrote p w w' := by
  have hlt := h.lt
  have as0 := fun v W => Tryz.no_append 77 v W (by decide)
  have as1 := fun v W => Tryz.yes_read v W
  have as2 := fun v W => Tryz.no_reply 77 v W (by decide)
  have as3 := fun v W => Tryz.no_result 77 v W (by decide)
  have hmf : ∀ (fn : Fn) (first cap : Array Value) (w : World), (Instr.makeFunc fn first cap).run Tryz.prog w = .ok (.func fn first cap) w := fun _ _ _ _ => rfl
  have HW : Hid (WA p o N0 w w) := Lib.hid ⟨h, Wrote.refl _ _⟩
  clear h
  go_enter Tryz.func23, Tryz.ntmps23
  go_wp2_with fail
  have hf := (((HW.out.new (.cells #[.int .i64 0, .string ⟨#[]⟩, .int .i64 0, .int .i64 0, .int .i64 0, .slice none 0 0] 75)).new (.cells #[.int .i64 n1, .string (B s), .int .i64 n2] 77)).new (.cells (intsA [n1]) 3))
  have HF := Lib.hid hf
  clear hf
  refine (wr_begin 12 [n1] (by decide) HF.out.at_ (new_at (by simp)) (by omega) (by simp) (by omega)).mono ?_
  rintro x w1 ⟨rfl, h1, h2⟩
  have hbx := h2.high (w.heap.size + 1) (.cells #[.int .i64 n1, .string (B s), .int .i64 n2] 77) (by omega) (new_at2 (by simp)) (fun cs f e => by cases e)
  have H := Lib.hid (HF.out.next h1 h2)
  have HBX := Lib.hid hbx
  clear h1 h2 hbx HF HW
  have d0 := block_cell HBX.out 0
  have d1 := block_cell HBX.out 1
  have d2 := block_cell HBX.out 2
  simp at d0 d1 d2
  go_wp2_with fail
  refine (wr_name s H.out.at_ (by omega) hsz).mono ?_
  rintro x w2 ⟨rfl, h1, h2⟩
  have hbx := h2.high _ _ (by omega) HBX.out (fun cs f e => by cases e)
  have H2 := Lib.hid (H.out.next h1 h2)
  clear HBX
  have HBX := Lib.hid hbx
  clear hbx
  clear h1 h2 H d0 d1 d2
  have H := H2
  clear H2
  have d0 := block_cell HBX.out 0
  have d1 := block_cell HBX.out 1
  have d2 := block_cell HBX.out 2
  simp at d0 d1 d2
  go_wp2_with fail
  refine (wr_number n2 H.out.at_ (by omega)).mono ?_
  rintro x w3 ⟨rfl, h1, h2⟩
  have hbx := h2.high _ _ (by omega) HBX.out (fun cs f e => by cases e)
  have H2 := Lib.hid (H.out.next h1 h2)
  clear HBX
  have HBX := Lib.hid hbx
  clear hbx
  clear h1 h2 H d0 d1 d2
  have H := H2
  clear H2
  go_wp2
  go_returns
  have hf := ((H.out.new (.cells #[.int .i64 0, .int .i64 0, .int .i64 0, .int .i64 0, .int .i64 0, .int .i64 0] 81)).new (.cells #[.int .i64 0, .int .i64 0, .int .i64 0, .slice none 0 0] 83))
  exact ⟨rfl, hf.at_.mono (by omega), hf.wr⟩

set_option maxHeartbeats 2000000 in
set_option maxRecDepth 100000 in
theorem client_reply {p N0 : Nat} {o : St} {w : World} (n1 n2 n3 n4 n5 n6 : Int) (h : WrAt p o N0 w) (hl : N0 + 300000 ≤ 100000000) :
    Calls Tryz.prog 23 #[rdP p, .iface 81 (.agg #[.int .i64 n1, .int .i64 n2, .int .i64 n3, .int .i64 n4, .int .i64 n5, .int .i64 n6])] w fun x w' => x = .returned (.tuple #[]) ∧ WrAt p (put1 ([n3, n4, n5, n6].all M.numR) ([n3, n4, n5, n6].flatMap M.putI) (put1 ([n1, n2].all M.numR) (13 :: [n1, n2].flatMap M.putI) o)) (N0 + 200000) w' ∧ Wrote p w w' := by
  have hlt := h.lt
  have as0 := fun v W => Tryz.no_append 81 v W (by decide)
  have as1 := fun v W => Tryz.no_read 81 v W (by decide)
  have as2 := fun v W => Tryz.yes_reply v W
  have as3 := fun v W => Tryz.no_result 81 v W (by decide)
  have hmf : ∀ (fn : Fn) (first cap : Array Value) (w : World), (Instr.makeFunc fn first cap).run Tryz.prog w = .ok (.func fn first cap) w := fun _ _ _ _ => rfl
  have HW : Hid (WA p o N0 w w) := Lib.hid ⟨h, Wrote.refl _ _⟩
  clear h
  go_enter Tryz.func23, Tryz.ntmps23
  go_wp2_with fail
  have hf := ((((HW.out.new (.cells #[.int .i64 0, .string ⟨#[]⟩, .int .i64 0, .int .i64 0, .int .i64 0, .slice none 0 0] 75)).new (.cells #[.int .i64 0, .string ⟨#[]⟩, .int .i64 0] 77)).new (.cells #[.int .i64 n1, .int .i64 n2, .int .i64 n3, .int .i64 n4, .int .i64 n5, .int .i64 n6] 81)).new (.cells (intsA [n1, n2]) 3))
  have HF := Lib.hid hf
  clear hf
  refine (wr_begin 13 [n1, n2] (by decide) HF.out.at_ (new_at (by simp)) (by omega) (by simp) (by omega)).mono ?_
  rintro x w1 ⟨rfl, h1, h2⟩
  have hbx := h2.high (w.heap.size + 1 + 1) (.cells #[.int .i64 n1, .int .i64 n2, .int .i64 n3, .int .i64 n4, .int .i64 n5, .int .i64 n6] 81) (by omega) (new_at2 (by simp)) (fun cs f e => by cases e)
  have H := Lib.hid (HF.out.next h1 h2)
  have HBX := Lib.hid hbx
  clear h1 h2 hbx HF HW
  have d0 := block_cell HBX.out 0
  have d1 := block_cell HBX.out 1
  have d2 := block_cell HBX.out 2
  have d3 := block_cell HBX.out 3
  have d4 := block_cell HBX.out 4
  have d5 := block_cell HBX.out 5
  simp at d0 d1 d2 d3 d4 d5
  go_wp2_with fail
  have hlt1 := H.out.at_.lt
  have HS := Lib.hid (H.out.new (.cells (intsA [n3, n4, n5, n6]) 3))
  refine (wr_numbers [n3, n4, n5, n6] HS.out.at_ (new_at (by simp)) (by omega) (by simp) (by omega)).mono ?_
  rintro x w2 ⟨rfl, h1, h2⟩
  have H2 := Lib.hid (HS.out.next h1 h2)
  clear HBX HS
  clear h1 h2 H d0 d1 d2 d3 d4 d5
  have H := H2
  clear H2
  go_wp2
  go_returns
  have hf := (H.out.new (.cells #[.int .i64 0, .int .i64 0, .int .i64 0, .slice none 0 0] 83))
  exact ⟨rfl, hf.at_.mono (by omega), hf.wr⟩

set_option maxHeartbeats 2000000 in
set_option maxRecDepth 100000 in
theorem client_result {p N0 : Nat} {o : St} {w w0 : World} (n1 n2 n3 : Int) (l1 : List E.Ev) (v1 : Value) (h : WrAt p o N0 w) (hl : N0 + 300000 ≤ 100000000) (hb0 : Below w0.heap.size w0 w) (hp : w0.heap.size ≤ p) (hv1 : ReadsE w0 v1 l1) (hsz : ∀ e ∈ l1, e.1.length ≤ 9223372036854775807 ∧ e.2.length ≤ 9223372036854775807) :
    Calls Tryz.prog 23 #[rdP p, .iface 83 (.agg #[.int .i64 n1, .int .i64 n2, .int .i64 n3, v1])] w fun x w' => x = .returned (.tuple #[]) ∧ WrAt p (put1 (decide (l1.length ≤ 16) && l1.all E.right) (N.putL l1.length ++ l1.flatMap E.putEv) (put1 ([n1, n2, n3].all M.numR) (14 :: [n1, n2, n3].flatMap M.putI) o)) (N0 + 200000) w' ∧ Wrote p w w' := by
  have hlt := h.lt
  have HV1 := Lib.hid hv1
  obtain ⟨a1, c1, rfl, -⟩ := hv1
  have as0 := fun v W => Tryz.no_append 83 v W (by decide)
  have as1 := fun v W => Tryz.no_read 83 v W (by decide)
  have as2 := fun v W => Tryz.no_reply 83 v W (by decide)
  have as3 := fun v W => Tryz.yes_result v W
  have hmf : ∀ (fn : Fn) (first cap : Array Value) (w : World), (Instr.makeFunc fn first cap).run Tryz.prog w = .ok (.func fn first cap) w := fun _ _ _ _ => rfl
  have HB0 := Lib.hid hb0
  have HW : Hid (WA p o N0 w w) := Lib.hid ⟨h, Wrote.refl _ _⟩
  clear h hb0
  go_enter Tryz.func23, Tryz.ntmps23
  go_wp2_with fail
  have hf := (((((HW.out.new (.cells #[.int .i64 0, .string ⟨#[]⟩, .int .i64 0, .int .i64 0, .int .i64 0, .slice none 0 0] 75)).new (.cells #[.int .i64 0, .string ⟨#[]⟩, .int .i64 0] 77)).new (.cells #[.int .i64 0, .int .i64 0, .int .i64 0, .int .i64 0, .int .i64 0, .int .i64 0] 81)).new (.cells #[.int .i64 n1, .int .i64 n2, .int .i64 n3, .slice a1 l1.length c1] 83)).new (.cells (intsA [n1, n2, n3]) 3))
  have HF := Lib.hid hf
  clear hf
  refine (wr_begin 14 [n1, n2, n3] (by decide) HF.out.at_ (new_at (by simp)) (by omega) (by simp) (by omega)).mono ?_
  rintro x w1 ⟨rfl, h1, h2⟩
  have hbx := h2.high (w.heap.size + 1 + 1 + 1) (.cells #[.int .i64 n1, .int .i64 n2, .int .i64 n3, .slice a1 l1.length c1] 83) (by omega) (new_at2 (by simp)) (fun cs f e => by cases e)
  have H := Lib.hid (HF.out.next h1 h2)
  have HBX := Lib.hid hbx
  clear h1 h2 hbx HF HW
  have d0 := block_cell HBX.out 0
  have d1 := block_cell HBX.out 1
  have d2 := block_cell HBX.out 2
  have d3 := block_cell HBX.out 3
  simp at d0 d1 d2 d3
  go_wp2_with fail
  refine (wr_list_event l1 _ 16 H.out.at_ (Wrote.below HB0.out hp H.out.wr) hp HV1.out (by omega) (by omega) hsz).mono ?_
  rintro x w2 ⟨rfl, h1, h2⟩
  have hbx := h2.high _ _ (by omega) HBX.out (fun cs f e => by cases e)
  have H2 := Lib.hid (H.out.next h1 h2)
  clear HBX
  have HBX := Lib.hid hbx
  clear hbx
  clear h1 h2 H d0 d1 d2 d3
  have H := H2
  clear H2
  go_wp2
  go_returns
  have hf := H.out
  exact ⟨rfl, hf.at_.mono (by omega), hf.wr⟩
end Go.Proofs.YtljcgpdjhjkciaaGreat
