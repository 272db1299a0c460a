/-
  Own texts, joined: DiskF DiskG DiskH DiskI DiskJ DiskK DiskZ
-/
import Derived.Test.YtmfhipjceeijmaaGreatDoorBun45
import Derived.Test.YtmfhipjceeijmaaGreatDoorBun16
import Derived.Test.YtmfhipjceeijmaaGreatDoorBun5

/-
  The landed disk's calls: New, Read, Synced, Sync, Delete, Rename.
-/
namespace Go.Proofs.YtmfhipjceeijmaaGreatDoor.D
open Go.RowKit Go.Maps
attribute [local go_sem] ext_Bd ext_Bl ext_Bt toList_B add_B size_B get_Bt

section
variable {bs : Nat} {w : World} {p m room : Nat} {l : List F} {loc : Tx → Value}
/-- The disk behind a call that writes it. -/
def Mv (bs : Nat) (w : World) (p m room : Nat) (l : List F) (loc : Tx → Value) (l2 : List F) (w' : World) : Prop :=
  (∃ loc2, DA bs w' p m room l2 loc2 ∧ Grow (SA p m l loc) w (SA p m l2 loc2)) ∧ But (SA p m l loc) w w'
theorem Mv.same (h : DA bs w p m room l loc) {w' : World} (hb : Below w.heap.size w w') : Mv bs w p m room l loc l w' := ⟨⟨loc, h.below hb, fun _ hk => .inl hk⟩, But.of_below hb⟩
theorem but_grown {w w' : World} {S : Nat → Prop} {row : Option Nat} (h : w.grownBy w' row) (hr : ∀ k, row = some k → S k) : But S w w' :=
  ⟨h.os, h.tape, h.output, h.size, fun k hk hs => h.block k hk fun e => hs (hr k e.symm)⟩
theorem grow_put (f : F) (v : Value) (hs : Sorted l) (hv : ∀ k, v.ownBlock = some k → SA p m l loc k ∨ w.heap.size ≤ k) : Grow (SA p m l loc) w (SA p m (put f l) (upd loc f.name v)) := fun k hk => by
  rcases hk with rfl | rfl | ⟨g, hg, hk⟩
  · exact .inl (.inl rfl)
  · exact .inl (.inr (.inl rfl))
  · rcases put_mem hs hg with rfl | ⟨hg, e⟩
    · rw [upd_same] at hk
      exact hv k hk
    · rw [upd_ne e] at hk
      exact .inl (.inr (.inr ⟨g, hg, hk⟩))
theorem grow_del (n : Tx) : Grow (SA p m l loc) w (SA p m (del n l) loc) := fun k hk => by
  rcases hk with rfl | rfl | ⟨g, hg, hk⟩
  · exact .inl (.inl rfl)
  · exact .inl (.inr (.inl rfl))
  · exact .inl (.inr (.inr ⟨g, (mem_del hg).1, hk⟩))
/-- What is known of a file that is found. -/
structure Fd (bs : Nat) (w : World) (p m : Nat) (l : List F) (loc : Tx → Value) (n : Tx) (f : F) (a : Option Addr) (c : Nat) : Prop where
  look : lookV loc (find n l) = .agg #[.slice a f.data.length c, .int .i64 (f.syn : Int)]
  mem : f ∈ l
  nam : f.name = n
  row : w.ownsRow bs 5 1 (.slice a f.data.length c) f.data.length (Lib.byteCells f.data)
  apart : ∀ g ∈ l, g.name ≠ n → ∀ k, (Value.slice a f.data.length c).ownBlock = some k → (loc g.name).ownBlock ≠ some k
  blk : ∀ k, (Value.slice a f.data.length c).ownBlock = some k → SA p m l loc k
  cap : f.data.length ≤ c
theorem DA.found (h : DA bs w p m room l loc) {n : Tx} {f : F} (hf : find n l = some f) : ∃ a c, Fd bs w p m l loc n f a c := by
  obtain ⟨hm, rfl⟩ := find_some hf
  have hr := h.row f hm
  have hcap : ∃ a c, loc f.name = .slice a f.data.length c ∧ f.data.length ≤ c := by
    rcases hr.2 with ⟨hv, h0⟩ | ⟨g, cap, cur, hv, _, _, hle, _⟩
    · exact ⟨none, 0, by rw [hv, h0], by omega⟩
    · exact ⟨_, cap, hv, hle⟩
  obtain ⟨a, c, e, hc⟩ := hcap
  refine ⟨a, c, ⟨?_, hm, rfl, by rw [e] at hr; exact hr, fun g hg hne k hk => ?_, fun k hk => .inr (.inr ⟨f, hm, by rw [e]; exact hk⟩), hc⟩⟩
  · rw [hf]
    show fV loc f = _
    unfold fV
    rw [e]
  · exact h.apart f hm g hg (fun e2 => hne e2.symm) k (by rw [e]; exact hk)

set_option maxHeartbeats 2000000 in
set_option maxRecDepth 100000 in
theorem read_none (h : DA bs w p m room l loc) (n : Tx) (hn : n.length ≤ 9223372036854775807) (hf : find n l = none) :
    Calls Tryz.prog 36 #[dP p, .string (B n)] w fun x w' => x = .returned (.tuple #[.string (B []), .int .i64 6]) ∧ Below w.heap.size w w' := by
  have hlk := h.look n hn
  rw [hf] at hlk
  have hlk2 : (Instr.lookup 99 (.map (some m)) (.string (B n)) true).run Tryz.prog w = .ok (.tuple #[.agg #[.slice none 0 0, .int .i64 0], .bool false]) w := hlk
  have c1 := h.cells.2
  have HB := Lib.hid ((Below.refl w.heap.size w).alloc (Nat.le_refl _) (.cells #[.slice none 0 0, .int .i64 0] 108))
  clear h hlk hf
  go_enter Tryz.func36, Tryz.ntmps36
  go_wp2
  go_returns
  exact ⟨rfl, HB.out⟩
set_option maxHeartbeats 2000000 in
set_option maxRecDepth 100000 in
theorem read_some (h : DA bs w p m room l loc) (n : Tx) (f : F) (hn : n.length ≤ 9223372036854775807) (hf : find n l = some f) :
    Calls Tryz.prog 36 #[dP p, .string (B n)] w fun x w' => x = .returned (.tuple #[.string (B f.data), .int .i64 0]) ∧ Below w.heap.size w w' := by
  obtain ⟨a, c, hfd⟩ := h.found hf
  have hlk := h.look n hn
  rw [hfd.look, hf] at hlk
  have hlk2 : (Instr.lookup 99 (.map (some m)) (.string (B n)) true).run Tryz.prog w = .ok (.tuple #[.agg #[.slice a f.data.length c, .int .i64 (f.syn : Int)], .bool true]) w := hlk
  have c1 := h.cells.2
  have hb := (Below.refl w.heap.size w).alloc (Nat.le_refl _) (.cells #[.slice a f.data.length c, .int .i64 (f.syn : Int)] 108)
  have kc := conv_owned (own_below hfd.row hb)
  have HB := Lib.hid hb
  clear h hlk hf hfd hb
  go_enter Tryz.func36, Tryz.ntmps36
  go_wp2
  go_returns
  exact ⟨rfl, HB.out⟩
theorem field_syn (a : Option Addr) (k c : Nat) (z : Int) (w : World) : (Instr.field 108 (.agg #[.slice a k c, .int .i64 z]) 1).run Tryz.prog w = .ok (.int .i64 z) w := by kernel_rfl
set_option maxHeartbeats 2000000 in
set_option maxRecDepth 100000 in
theorem synced_n (h : DA bs w p m room l loc) (n : Tx) (hn : n.length ≤ 9223372036854775807) :
    Calls Tryz.prog 38 #[dP p, .string (B n)] w fun x w' => x = .returned (.int .i64 (D.synced n l : Int)) ∧ Below w.heap.size w w' := by
  have hlk := h.look1 n hn
  have c1 := h.cells.2
  obtain ⟨a, k, c, t, hv, ht⟩ : ∃ a k c, ∃ t : Nat, lookV loc (find n l) = .agg #[.slice a k c, .int .i64 (t : Int)] ∧ t = D.synced n l := by
    cases hf : find n l with
    | none => exact ⟨_, _, _, 0, rfl, by unfold D.synced; rw [hf]⟩
    | some f =>
      obtain ⟨a, c, hfd⟩ := h.found hf
      exact ⟨a, _, c, f.syn, by rw [← hf]; exact hfd.look, by unfold D.synced; rw [hf]⟩
  rw [hv] at hlk
  have HT := Lib.hid ht
  have kf := field_syn a k c (t : Int)
  clear h ht hv
  go_enter Tryz.func38, Tryz.ntmps38
  go_wp2
  go_ret
  rw [← HT.out]
  exact ⟨rfl, Below.refl _ _⟩
set_option maxHeartbeats 2000000 in
set_option maxRecDepth 100000 in
theorem sync_none (h : DA bs w p m room l loc) (n : Tx) (hn : n.length ≤ 9223372036854775807) (hf : find n l = none) :
    Calls Tryz.prog 86 #[dP p, .string (B n)] w fun x w' => x = .returned (.int .i64 6) ∧ Mv bs w p m room l loc l w' := by
  have hlk := h.look n hn
  rw [hf] at hlk
  have hlk2 : (Instr.lookup 99 (.map (some m)) (.string (B n)) true).run Tryz.prog w = .ok (.tuple #[.agg #[.slice none 0 0, .int .i64 0], .bool false]) w := hlk
  have c1 := h.cells.2
  have HB := Lib.hid (Mv.same h ((Below.refl w.heap.size w).alloc (Nat.le_refl _) (.cells #[.slice none 0 0, .int .i64 0] 108)))
  clear h hlk hf
  go_enter Tryz.func86, Tryz.ntmps86
  go_wp2
  go_ret
  exact ⟨rfl, HB.out⟩
/-- A file is put, in a world that has new blocks alone beside the old one. -/
theorem Mv.put {w1 w' : World} (hs : Sorted l) (f : F) (v : Value) (hb : Below w.heap.size w w1) (hd : DA bs w' p m room (put f l) (upd loc f.name v)) (hg : w1.grownBy w' (some m)) (hv : ∀ k, v.ownBlock = some k → SA p m l loc k ∨ w.heap.size ≤ k) : Mv bs w p m room l loc (put f l) w' :=
  ⟨⟨_, hd, grow_put f v hs hv⟩, But.trans (But.of_below hb) (but_grown hg fun k e => by cases e; exact .inr (.inl rfl))⟩
set_option maxHeartbeats 2000000 in
set_option maxRecDepth 100000 in
theorem sync_some (h : DA bs w p m room l loc) (hs : Sorted l) (hl : l.length ≤ 1000) (n : Tx) (f : F) (hn : n.length ≤ 9223372036854775807) (hf : find n l = some f) :
    Calls Tryz.prog 86 #[dP p, .string (B n)] w fun x w' => x = .returned (.int .i64 0) ∧ Mv bs w p m room l loc (D.put ⟨n, f.data, f.data.length⟩ l) w' := by
  obtain ⟨a, c, hfd⟩ := h.found hf
  have hlk := h.look n hn
  rw [hfd.look, hf] at hlk
  have hlk2 : (Instr.lookup 99 (.map (some m)) (.string (B n)) true).run Tryz.prog w = .ok (.tuple #[.agg #[.slice a f.data.length c, .int .i64 (f.syn : Int)], .bool true]) w := hlk
  have c1 := h.cells.2
  have HB := Lib.hid ((Below.refl w.heap.size w).alloc (Nat.le_refl _) (.cells #[.slice a f.data.length c, .int .i64 (f.syn : Int)] 108))
  have HD := Lib.hid h
  have HF := Lib.hid hfd
  clear h hlk hf hfd
  go_enter Tryz.func86, Tryz.ntmps86
  go_wp2_with fail
  refine (synced_l a f.data.length c _ _).mono ?_
  rintro x w3 ⟨rfl, hb3⟩
  have HB3 := Lib.hid (HB.out.trans (hb3.mono HB.out.size))
  clear hb3 c1 hlk2
  go_wp2_with fail
  refine (put_l ⟨n, f.data, f.data.length⟩ ((HD.out.below HB3.out).dw _) hs hl hn a c (own_below HF.out.row HB3.out) HF.out.apart).mono ?_
  rintro x w4 ⟨rfl, hd4, hg4⟩
  have HM := Lib.hid (Mv.put hs ⟨n, f.data, f.data.length⟩ _ HB3.out hd4 hg4 fun k hk => .inl (HF.out.blk k hk))
  clear hd4 hg4
  go_wp2
  go_ret
  exact ⟨rfl, HM.out⟩
end
end Go.Proofs.YtmfhipjceeijmaaGreatDoor.D

/-
  The landed disk's calls: New, Delete, Rename, Append.
-/
namespace Go.Proofs.YtmfhipjceeijmaaGreatDoor.D
open Go.RowKit Go.Maps
attribute [local go_sem] ext_Bd ext_Bl ext_Bt toList_B add_B size_B get_Bt

theorem wpList_del {P : Program} {w : World} {ops : Array Oper} {rest : List Oper} {o : Oper} {a : Act} {Q : Exit → Act → World → Prop} (hgd : o.guard = none) (mm x : Operand) (t k : TypeId) (hop : o.op = Op.call { callee := Callee.builtin Builtin.delete, args := #[mm, x], argTypes := #[t, k] })
    {b : Nat} {key : Value} (hm : a.eval mm = .map (some b)) (hx : a.eval x = key) {R : World → Prop} (hrun : ∃ w', (Builtin.delete_ #[t, k] o.type #[.map (some b), key]).run P w = .ok (.tuple #[]) w' ∧ R w') (h : ∀ w', R w' → wpList P ops Q rest (a.put o.dst (.tuple #[])) w') : wpList P ops Q (o :: rest) a w := by
  refine wpList_plain hgd fun K' hK' => ?_
  obtain ⟨w', hr, hR⟩ := hrun
  unfold Oper.wp
  simp [execOp, hop, resolve, invoke, builtin, hm, hx, hr, Result.andThen]
  exact hK' _ _ (h w' hR)
section
variable {bs : Nat} {w : World} {p m room : Nat} {l : List F} {loc : Tx → Value}
theorem DA.rowkeep (h : DA bs w p m room l loc) {w' : World} (hg : w.grownBy w' (some m)) {b2 n : Nat} {v : Value} {xs : List Value} (hr : w.ownsRow b2 5 1 v n xs) : w'.ownsRow b2 5 1 v n xs :=
  row_ext hr fun k hk => by
    obtain ⟨_, c, hc⟩ := own_blk hr hk
    refine hg.block k (Array.getElem?_eq_some_iff.1 hc).1 fun e => ?_
    cases e
    obtain ⟨es, clock, hb, _⟩ := h.map
    rw [hb] at hc
    cases hc
set_option maxHeartbeats 2000000 in
set_option maxRecDepth 100000 in
theorem delete_none (h : DA bs w p m room l loc) (n : Tx) (hn : n.length ≤ 9223372036854775807) (hf : find n l = none) :
    Calls Tryz.prog 30 #[dP p, .string (B n)] w fun x w' => x = .returned (.int .i64 6) ∧ Mv bs w p m room l loc l w' := by
  have hlk := h.look n hn
  rw [hf] at hlk
  have hlk2 : (Instr.lookup 99 (.map (some m)) (.string (B n)) true).run Tryz.prog w = .ok (.tuple #[.agg #[.slice none 0 0, .int .i64 0], .bool false]) w := hlk
  have c1 := h.cells.2
  have HB := Lib.hid (Mv.same h ((Below.refl w.heap.size w).alloc (Nat.le_refl _) (.cells #[.slice none 0 0, .int .i64 0] 108)))
  clear h hlk hf
  go_enter Tryz.func30, Tryz.ntmps30
  go_wp2
  go_ret
  exact ⟨rfl, HB.out⟩
set_option maxHeartbeats 2000000 in
set_option maxRecDepth 100000 in
theorem delete_some (h : DA bs w p m room l loc) (n : Tx) (f : F) (hn : n.length ≤ 9223372036854775807) (hf : find n l = some f) :
    Calls Tryz.prog 30 #[dP p, .string (B n)] w fun x w' => x = .returned (.int .i64 0) ∧ Mv bs w p m room l loc (del n l) w' := by
  obtain ⟨a, c, hfd⟩ := h.found hf
  have hlk := h.look n hn
  rw [hfd.look, hf] at hlk
  have hlk2 : (Instr.lookup 99 (.map (some m)) (.string (B n)) true).run Tryz.prog w = .ok (.tuple #[.agg #[.slice a f.data.length c, .int .i64 (f.syn : Int)], .bool true]) w := hlk
  have c1 := h.cells.2
  have hb := (Below.refl w.heap.size w).alloc (Nat.le_refl _) (.cells #[.slice a f.data.length c, .int .i64 (f.syn : Int)] 108)
  have HB := Lib.hid hb
  have HD := Lib.hid (h.below hb)
  have c2 := HD.out.cells.2
  clear h hlk hf hfd hb
  go_enter Tryz.func30, Tryz.ntmps30
  go_wp2_with (at_delete; refine wpList_del rfl _ _ _ _ rfl rfl rfl (HD.out.drop n hn _) ?_; rintro w5 ⟨hda, hturn⟩; have HD5 := Lib.hid hda; have HG5 := Lib.hid hturn.grown; clear hda hturn)
  go_ret
  exact ⟨rfl, ⟨loc, HD5.out, grow_del n⟩, But.trans (But.of_below HB.out) (but_grown HG5.out fun k e => by cases e; exact .inr (.inl rfl))⟩
set_option maxHeartbeats 2000000 in
set_option maxRecDepth 100000 in
theorem ren_none (h : DA bs w p m room l loc) (n t : Tx) (hn : n.length ≤ 9223372036854775807) (hf : find n l = none) :
    Calls Tryz.prog 61 #[dP p, .string (B n), .string (B t)] w fun x w' => x = .returned (.int .i64 6) ∧ Mv bs w p m room l loc l w' := by
  have hlk := h.look n hn
  rw [hf] at hlk
  have hlk2 : (Instr.lookup 99 (.map (some m)) (.string (B n)) true).run Tryz.prog w = .ok (.tuple #[.agg #[.slice none 0 0, .int .i64 0], .bool false]) w := hlk
  have c1 := h.cells.2
  have HB := Lib.hid (Mv.same h ((Below.refl w.heap.size w).alloc (Nat.le_refl _) (.cells #[.slice none 0 0, .int .i64 0] 108)))
  clear h hlk hf
  go_enter Tryz.func61, Tryz.ntmps61
  go_wp2
  go_ret
  exact ⟨rfl, HB.out⟩
set_option maxHeartbeats 2000000 in
set_option maxRecDepth 100000 in
theorem ren_bad (h : DA bs w p m room l loc) (n t : Tx) (f : F) (hn : n.length ≤ 9223372036854775807) (ht : t.length ≤ 9223372036854775807) (hf : find n l = some f) (hq : nameL t = false) :
    Calls Tryz.prog 61 #[dP p, .string (B n), .string (B t)] w fun x w' => x = .returned (.int .i64 1) ∧ Mv bs w p m room l loc l w' := by
  obtain ⟨a, c, hfd⟩ := h.found hf
  have hlk := h.look n hn
  rw [hfd.look, hf] at hlk
  have hlk2 : (Instr.lookup 99 (.map (some m)) (.string (B n)) true).run Tryz.prog w = .ok (.tuple #[.agg #[.slice a f.data.length c, .int .i64 (f.syn : Int)], .bool true]) w := hlk
  have c1 := h.cells.2
  have HB := Lib.hid ((Below.refl w.heap.size w).alloc (Nat.le_refl _) (.cells #[.slice a f.data.length c, .int .i64 (f.syn : Int)] 108))
  have HD := Lib.hid h
  have HQ := Lib.hid hq
  clear h hlk hf hfd hq
  go_enter Tryz.func61, Tryz.ntmps61
  go_wp2_with fail
  refine (Name_l t _ (by omega)).mono ?_
  rintro x w3 ⟨rfl, hb3⟩
  rw [HQ.out]
  have HM := Lib.hid (Mv.same HD.out (HB.out.trans (hb3.mono HB.out.size)))
  clear hb3
  go_wp2
  go_ret
  exact ⟨rfl, HM.out⟩
theorem ren_box (h : DA bs w p m room l loc) {w3 w5 : World} (hlt : w.heap.size < w3.heap.size) (hg : w3.grownBy w5 (some m)) {j : Nat} {u : Value} (e : w3.cell? ⟨w.heap.size, j, none⟩ = some u) : w5.cell? ⟨w.heap.size, j, none⟩ = some u := by
  rw [World.cell?_of_block (w := w3) (hg.block _ hlt fun e2 => by have := h.map.lt; have h3 : w.heap.size = m := Option.some.inj e2; omega)]
  exact e
set_option maxHeartbeats 4000000 in
set_option maxRecDepth 100000 in
theorem ren_ok (h : DA bs w p m room l loc) (hs : Sorted l) (hl : l.length ≤ 1000) (n t : Tx) (f : F) (hn : n.length ≤ 9223372036854775807) (ht : t.length ≤ 9223372036854775807) (hf : find n l = some f) (hq : nameL t = true) :
    Calls Tryz.prog 61 #[dP p, .string (B n), .string (B t)] w fun x w' => x = .returned (.int .i64 0) ∧ Mv bs w p m room l loc (D.put ⟨t, f.data, f.syn⟩ (del n l)) w' := by
  obtain ⟨a, c, hfd⟩ := h.found hf
  have hlk := h.look n hn
  rw [hfd.look, hf] at hlk
  have hlk2 : (Instr.lookup 99 (.map (some m)) (.string (B n)) true).run Tryz.prog w = .ok (.tuple #[.agg #[.slice a f.data.length c, .int .i64 (f.syn : Int)], .bool true]) w := hlk
  have c1 := h.cells.2
  have hb := (Below.refl w.heap.size w).alloc (Nat.le_refl _) (.cells #[.slice a f.data.length c, .int .i64 (f.syn : Int)] 108)
  have HB := Lib.hid hb
  have HD := Lib.hid h
  have HF := Lib.hid hfd
  have HQ := Lib.hid hq
  have HDL : Hid (Sorted (del n l) ∧ (del n l).length ≤ 1000) := Lib.hid ⟨sorted_del hs, by have := length_del (n := n) hs; omega⟩
  clear h hlk hf hfd hb hq
  go_enter Tryz.func61, Tryz.ntmps61
  go_wp2_with fail
  refine (Name_l t _ (by omega)).mono ?_
  rintro x w3 ⟨rfl, hb3⟩
  rw [HQ.out]
  have e0 := box_at hb3 0
  have e1 := box_at hb3 1
  simp at e0 e1
  have HB3 := Lib.hid (HB.out.trans (hb3.mono HB.out.size))
  have HD3 := Lib.hid (HD.out.below HB3.out)
  have c3 := HD3.out.cells.2
  have HLT : Hid (w.heap.size < w3.heap.size) := Lib.hid (by have := hb3.size; simp at this; omega)
  clear hb3 c1
  go_wp2_with (at_delete; refine wpList_del rfl _ _ _ _ rfl rfl rfl (HD3.out.drop n hn _) ?_; rintro w5 ⟨hda, hturn⟩; have HD5 := Lib.hid hda; have HG5 := Lib.hid hturn.grown; have e5 := ren_box HD.out HLT.out HG5.out e0; have e6 := ren_box HD.out HLT.out HG5.out e1; clear hda hturn e0 e1 c3)
  refine (put_l ⟨t, f.data, f.syn⟩ (HD5.out.dw _) HDL.out.1 HDL.out.2 ht a c (HD3.out.rowkeep HG5.out (own_below HF.out.row HB3.out)) fun g hg hne => HF.out.apart g (mem_del hg).1 (mem_del hg).2).mono ?_
  rintro x w6 ⟨rfl, hd6, hg6⟩
  have HM : Hid (Mv bs w p m room l loc (D.put ⟨t, f.data, f.syn⟩ (del n l)) w6) := Lib.hid ⟨⟨_, hd6, fun k hk => by
    rcases hk with rfl | rfl | ⟨g, hg, hk⟩
    · exact .inl (.inl rfl)
    · exact .inl (.inr (.inl rfl))
    · rcases put_mem HDL.out.1 hg with rfl | ⟨hg, e⟩
      · rw [upd_same] at hk
        exact .inl (HF.out.blk k hk)
      · rw [upd_ne e] at hk
        exact .inl (.inr (.inr ⟨g, (mem_del hg).1, hk⟩))⟩, But.trans (But.of_below HB3.out) (But.trans (but_grown HG5.out fun k e => by cases e; exact .inr (.inl rfl)) (but_grown hg6 fun k e => by cases e; exact .inr (.inl rfl)))⟩
  clear hd6 hg6
  go_wp2
  go_ret
  exact ⟨rfl, HM.out⟩
end
end Go.Proofs.YtmfhipjceeijmaaGreatDoor.D

/-
  The landed disk's calls: New, Used.
-/
namespace Go.Proofs.YtmfhipjceeijmaaGreatDoor.D
open Go.RowKit Go.Maps
attribute [local go_sem] ext_Bd ext_Bl ext_Bt toList_B add_B size_B get_Bt

set_option maxHeartbeats 2000000 in
set_option maxRecDepth 100000 in
theorem new_bad (room : Int) (w : World) (h : room < 1 ∨ 1073741824 < room) :
    Calls Tryz.prog 19 #[.int .i64 room] w fun x w' => x = .returned (.tuple #[.pointer none, .int .i64 1]) ∧ Below w.heap.size w w' := by
  by_cases h1 : room < 1
  · go_enter Tryz.func19, Tryz.ntmps19
    go_wp2
    go_returns
    exact ⟨rfl, Below.refl _ _⟩
  · have h2 : 1073741824 < room := by omega
    go_enter Tryz.func19, Tryz.ntmps19
    go_wp2
    go_returns
    exact ⟨rfl, Below.refl _ _⟩
/-- A new disk, without files. -/
def NewAt (bs : Nat) (w : World) (room : Nat) (x : Ending) (w' : World) : Prop :=
  ∃ p m, x = .returned (.tuple #[dP p, .int .i64 0]) ∧ w.heap.size ≤ p ∧ w.heap.size ≤ m ∧ ∀ loc, DA bs w' p m room [] loc
set_option maxHeartbeats 2000000 in
set_option maxRecDepth 100000 in
theorem new_ok {bs : Nat} (room : Nat) (w : World) (hb : bs ≤ w.heap.size) (h1 : 1 ≤ room) (h2 : room ≤ 1073741824) :
    Calls Tryz.prog 19 #[.int .i64 (room : Int)] w fun x w' => NewAt bs w room x w' ∧ Below w.heap.size w w' := by
  have g1 : ¬ (room : Int) < 1 := by omega
  have g2 : ¬ (1073741824 : Int) < (room : Int) := by omega
  have hmm := @run_makeMap Tryz.prog
  have HD : Hid ((∀ loc, DA bs ((w.alloc (.map #[] 0)).alloc (.cells #[.int .i64 (room : Int), .map (some w.heap.size)] 101)) (w.heap.size + 1) w.heap.size room [] loc) ∧ Below w.heap.size w ((w.alloc (.map #[] 0)).alloc (.cells #[.int .i64 (room : Int), .map (some w.heap.size)] 101))) := Lib.hid (by
    obtain ⟨n1, n2, n3⟩ := two_new w (.map #[] 0) (.cells #[.int .i64 (room : Int), .map (some w.heap.size)] 101)
    refine ⟨fun loc => ⟨n2, by omega, hb, ?_, fun f hf => absurd hf (by simp), fun f hf => absurd hf (by simp)⟩, n3⟩
    have := (World.ownsMap_made w Tryz.prog 9 Rv).alloc (.cells #[.int .i64 (room : Int), .map (some w.heap.size)] 101)
    exact this)
  go_enter Tryz.func19, Tryz.ntmps19
  go_wp2
  go_returns
  exact ⟨⟨w.heap.size + 1, w.heap.size, rfl, by omega, Nat.le_refl _, HD.out.1⟩, HD.out.2⟩
/-- The bytes of those that are still to come. -/
def rest (left : Lit → Bool) : List F → Nat
  | [] => 0
  | f :: l => (if left (.string f.name) then f.data.length else 0) + rest left l
theorem rest_all {left : Lit → Bool} : ∀ {l : List F}, (∀ f ∈ l, left (.string f.name) = true) → rest left l = used l
  | [], _ => rfl
  | f :: l, h => by rw [rest, if_pos (h f (by simp)), rest_all fun g hg => h g (by simp [hg]), used]
theorem rest_none {left : Lit → Bool} : ∀ {l : List F}, (∀ kl, left kl = false) → rest left l = 0
  | [], _ => rfl
  | f :: l, h => by rw [rest, h, rest_none h]; rfl
theorem key_ne {a b : Tx} (h : a ≠ b) : (Lit.string a).sameKey (.string b) = false := by rw [same_string, decide_eq_false h]
theorem key_eq (a : Tx) : (Lit.string a).sameKey (.string a) = true := by rw [same_string, decide_eq_true rfl]
theorem rest_off {left : Lit → Bool} {n : Tx} : ∀ {l : List F}, (∀ f ∈ l, f.name ≠ n) → rest (fun z => left z && !z.sameKey (.string n)) l = rest left l
  | [], _ => rfl
  | f :: l, h => by
    rw [rest, rest, rest_off fun g hg => h g (by simp [hg]), key_ne (h f (by simp))]
    simp
theorem rest_step {left : Lit → Bool} {f : F} : ∀ {l : List F}, Sorted l → f ∈ l → left (.string f.name) = true → rest (fun z => left z && !z.sameKey (.string f.name)) l + f.data.length = rest left l
  | g :: l, hs, hm, hk => by
    obtain ⟨h1, h2⟩ := List.pairwise_cons.1 hs
    have hne : ∀ x ∈ l, g.name ≠ x.name := fun x hx e => by have := h1 x hx; rw [e, lt_irrefl] at this; cases this
    rcases List.mem_cons.1 hm with rfl | hm
    · rw [rest, rest, rest_off fun x hx e => hne x hx e.symm, key_eq, if_pos hk]
      simp
      omega
    · have := rest_step h2 hm hk
      rw [rest, rest, key_ne (hne f hm)]
      simp only [Bool.not_false, Bool.and_true]
      omega
theorem rest_le {left : Lit → Bool} : ∀ (l : List F), rest left l ≤ used l
  | [] => Nat.le_refl _
  | f :: l => by
    have := rest_le (left := left) l
    rw [rest, used]
    split <;> omega
/-- An element of the map: its slice, how many are synced. -/
structure El where
  a : Option Addr
  n : Nat
  c : Nat
  z : Int
def elV (e : El) : Value := .agg #[.slice e.a e.n e.c, .int .i64 e.z]
theorem el_inj {e : El} {a : Option Addr} {n c : Nat} {z : Int} (h : elV e = .agg #[.slice a n c, .int .i64 z]) : e = ⟨a, n, c, z⟩ := by
  obtain ⟨ea, en, ec, ez⟩ := e
  simp [elV] at h
  simp [h]
section
variable {bs : Nat} {w : World} {p m room : Nat} {l : List F} {loc : Tx → Value}
theorem files_key {key : Value} {kl : Lit} (h : keyOf Tryz.prog 9 key = some kl) : ∃ x : Tx, key = .string (B x) ∧ kl = .string x := by
  obtain ⟨x, hx, hk, _⟩ := Maps.keyOf_str Tryz.underlying9 h
  exact ⟨x, hx, hk⟩
/-- An entry of the map is a file. -/
theorem entry_file {x : Tx} {v : Value} {y : DataW Value × List MemPlace} (hv : Rv v = some y) (hat : ∀ zd, (mapD (eD loc) l).atKey (.string x) zd = y.1) : ∃ f, find x l = some f ∧ v = fV loc f := by
  obtain ⟨a, n, c, z, hv2, rfl⟩ := rv_inv hv
  cases hf : find x l with
  | none =>
    have h1 := hat .nil
    rw [at_mapD, hf] at h1
    cases h1
  | some f =>
    have h1 := hat .nil
    rw [at_mapD, hf] at h1
    have h2 : DataW.held (fV loc f) = DataW.held v := h1
    exact ⟨f, rfl, (DataW.held.inj h2).symm⟩
set_option maxHeartbeats 4000000 in
set_option maxRecDepth 100000 in
theorem used_l (h : DA bs w p m room l loc) (hs : Sorted l) (hu : used l ≤ 1000000000000) :
    Calls Tryz.prog 34 #[dP p] w fun x w' => x = .returned (.int .i64 (D.used l : Int)) ∧ Below w.heap.size w w' := by
  have c1 := h.cells.2
  have HM := Lib.hid h.map
  have HFV : Hid (∀ f, find f.name l = some f → ∃ a c, fV loc f = .agg #[.slice a f.data.length c, .int .i64 (f.syn : Int)]) := Lib.hid fun f hf => by
    obtain ⟨a, c, hfd⟩ := h.found hf
    have := hfd.look
    rw [hf] at this
    exact ⟨a, c, this⟩
  clear h
  go_enter Tryz.func34, Tryz.ntmps34
  go_wp2_with (first | (at_range; refine wpList_range_own _ rfl _ 99 rfl 9 108 (string_keyed Tryz.underlying9) Tryz.underlying99 Rv m l.length (mapD (eD loc) l) rfl HM.out ?_; intro w0 hrg0 hg0 hs0) | go_in)
  go_frame
  have hb0 : Below w.heap.size w w0 := ⟨hg0.os, hg0.tape, hg0.output, hg0.size, fun k hk => hg0.block k hk (by simp)⟩
  have HST := Lib.hid (And.intro hrg0 hb0)
  clear hrg0 hb0 hg0 hs0
  go_loopw [3] (fun u wr => ∃ (left : Lit → Bool) (cnt q : Nat), u = .int .i64 (q : Int) ∧ wr.ranges Tryz.prog 9 Rv m w.heap.size l.length (mapD (eD loc) l) left cnt ∧ q + rest left l = used l ∧ Below w.heap.size w wr) (fun _ wr => wr.rangeLeft m w.heap.size)
  case atStart => exact ⟨_, _, 0, rfl, HST.out.1, by rw [rest_all fun f hf => by rw [has_mapD, find_mem hs hf]; rfl]; omega, HST.out.2⟩
  case round =>
    obtain ⟨left, cnt, q, rfl, hrg, hq, hbel⟩ := hrel
    have HRG := Lib.hid hrg
    have HQ := Lib.hid hq
    have HBL := Lib.hid hbel
    clear hq hbel
    go_wp2_with (first
      | (at_next; refine wpList_next_ranges _ rfl _ rfl 9 (string_keyed Tryz.underlying9) Rv (fun x : Tx => .string (B x)) elV (fun key kl hk => by obtain ⟨x, hx, _⟩ := files_key hk; exact ⟨x, hx⟩) (fun v y hv => by obtain ⟨a, n, c, z, hv2, _⟩ := rv_inv hv; exact ⟨⟨a, n, c, z⟩, hv2⟩) m w.heap.size l.length _ _ _ rfl hrg ?_ ?_)
      | go_in)
    · intro hc0 hl0
      have e := HQ.out
      rw [rest_none hl0] at e
      have HE : Hid ((q : Int) = (used l : Int)) := Lib.hid (by omega)
      clear e
      go_wp2
      go_ret
      rw [HE.out]
      exact ⟨rfl, HBL.out⟩
    · intro x c kl yd yp w2 cnt2 hkey hlk hv hat hrg2 hlt hg2 hs2 hen
      obtain ⟨x', ex, rfl⟩ := files_key hkey
      obtain rfl : x = x' := B_inj (Value.string.inj ex)
      obtain ⟨f, hf, hvf⟩ := entry_file hv hat
      obtain ⟨hfm, rfl⟩ := find_some hf
      obtain ⟨a, c2, hfa⟩ := HFV.out f hf
      have hc : c = ⟨a, f.data.length, c2, (f.syn : Int)⟩ := el_inj (hvf.trans hfa)
      subst hc
      have hen2 : (Instr.entry (.pointer (some ⟨w.heap.size, 0, none⟩))).run Tryz.prog w2 = .ok (.tuple #[.string (B f.name), .agg #[.slice a f.data.length c2, .int .i64 (f.syn : Int)]]) w2 := hen
      rw [show elV ⟨a, f.data.length, c2, (f.syn : Int)⟩ = .agg #[.slice a f.data.length c2, .int .i64 (f.syn : Int)] from rfl]
      have hq2 := rest_step hs hfm hlk
      have hqb : (q : Int) + (f.data.length : Int) ≤ 1000000000000 := by have := HQ.out; omega
      have HQ2 : Hid (q + f.data.length + rest (fun z => left z && !z.sameKey (.string f.name)) l = used l) := Lib.hid (by have := HQ.out; omega)
      have HR2 := Lib.hid (hrg2.alloc (.cells #[.slice a f.data.length c2, .int .i64 (f.syn : Int)] 108))
      have HBL2 := Lib.hid ((HBL.out.grown hg2 HBL.out.size fun k e => by cases e; exact Nat.le_refl _).alloc (by rw [hs2]; exact HBL.out.size) (.cells #[.slice a f.data.length c2, .int .i64 (f.syn : Int)] 108))
      clear hs2 hg2 hrg2 hq2 hvf hfa hv hat hkey ex hlk HQ HBL hf hfm hen
      go_wp2
      go_roundw
      case rel => exact ⟨_, cnt2, q + f.data.length, by go_num, HR2.out, HQ2.out, HBL2.out⟩
      case measure => rw [HR2.out.left_eq, HRG.out.left_eq]; exact hlt
end
end Go.Proofs.YtmfhipjceeijmaaGreatDoor.D

/-
  The landed disk's Append.
-/
namespace Go.Proofs.YtmfhipjceeijmaaGreatDoor.D
open Go.RowKit Go.Maps
attribute [local go_sem] ext_Bd ext_Bl ext_Bt toList_B add_B size_B get_Bt

section
variable {bs : Nat} {w : World} {p m room : Nat} {l : List F} {loc : Tx → Value}
/-- What a look-up tells, of a file or of none: its bytes' slice, whether it is there. -/
structure Lk (bs : Nat) (w : World) (p m : Nat) (l : List F) (loc : Tx → Value) (n : Tx) (d : Tx) (syn : Nat) (a : Option Addr) (c : Nat) (is : Bool) : Prop where
  run : (Instr.lookup 99 (.map (some m)) (.string (B n)) true).run Tryz.prog w = .ok (.tuple #[.agg #[.slice a d.length c, .int .i64 (syn : Int)], .bool is]) w
  row : w.ownsRow bs 5 1 (.slice a d.length c) d.length (Lib.byteCells d)
  apart : ∀ g ∈ l, g.name ≠ n → ∀ k, (Value.slice a d.length c).ownBlock = some k → (loc g.name).ownBlock ≠ some k
  blk : ∀ k, (Value.slice a d.length c).ownBlock = some k → SA p m l loc k
  is : (find n l).isSome = is
  dat : ∀ s : Tx, (match find n l with | some f => (⟨n, f.data ++ s, f.syn⟩ : F) | none => ⟨n, s, 0⟩) = ⟨n, d ++ s, syn⟩
theorem DA.lk (h : DA bs w p m room l loc) (n : Tx) (hn : n.length ≤ 9223372036854775807) : ∃ d syn a c is, Lk bs w p m l loc n d syn a c is ∧ d.length = lenAt (find n l) := by
  have hlk := h.look n hn
  cases hf : find n l with
  | none =>
    rw [hf] at hlk
    exact ⟨[], 0, none, 0, false, ⟨hlk, World.ownsRow_nil w _ _ _, fun _ _ _ k hk => (by cases hk), fun k hk => (by cases hk), by rw [hf]; rfl, fun s => by rw [hf]; rfl⟩, rfl⟩
  | some f =>
    obtain ⟨a, c, hfd⟩ := h.found hf
    have e := hfd.look
    rw [hf] at e
    rw [hf, e] at hlk
    exact ⟨f.data, f.syn, a, c, true, ⟨hlk, hfd.row, hfd.apart, hfd.blk, by rw [hf]; rfl, fun s => by rw [hf]⟩, rfl⟩
theorem R3_drew {p room : Nat} {W a : World} (h : a.cell? ⟨p, 0, none⟩ = some (.int .i64 (room : Int)) ∧ Below W.heap.size W a) : a.drew.cell? ⟨p, 0, none⟩ = some (.int .i64 (room : Int)) ∧ Below W.heap.size W a.drew := ⟨h.1, h.2.drew⟩
theorem R3_call {p room : Nat} {W a b : World} (h : a.cell? ⟨p, 0, none⟩ = some (.int .i64 (room : Int)) ∧ Below W.heap.size W a) (hb : Below a.heap.size a b) : b.cell? ⟨p, 0, none⟩ = some (.int .i64 (room : Int)) ∧ Below W.heap.size W b :=
  ⟨keeps hb _ _ h.1, h.2.trans (hb.mono h.2.size)⟩
variable (n s : Tx)
set_option maxHeartbeats 4000000 in
set_option maxRecDepth 100000 in
theorem app_name (h : DA bs w p m room l loc) (hn : n.length ≤ 9223372036854775807) (hq : nameL n = false) :
    Calls Tryz.prog 25 #[dP p, .string (B n), .string (B s)] w fun x w' => x = .returned (.int .i64 1) ∧ Mv bs w p m room l loc l w' := by
  obtain ⟨d, syn, a, c, is, hlk, -⟩ := h.lk n hn
  have hrun := hlk.run
  have c1 := h.cells.2
  have HB := Lib.hid ((Below.refl w.heap.size w).alloc (Nat.le_refl _) (.cells #[.slice a d.length c, .int .i64 (syn : Int)] 108))
  have HD := Lib.hid h
  have HQ := Lib.hid hq
  clear h hlk hq
  go_enter Tryz.func25, Tryz.ntmps25
  go_wp2_with fail
  refine (Name_l n _ (by omega)).mono ?_
  rintro x w3 ⟨rfl, hb3⟩
  rw [HQ.out]
  have HM := Lib.hid (Mv.same HD.out (HB.out.trans (hb3.mono HB.out.size)))
  clear hb3
  go_wp2
  go_ret
  exact ⟨rfl, HM.out⟩
set_option maxHeartbeats 4000000 in
set_option maxRecDepth 100000 in
theorem app_long (h : DA bs w p m room l loc) (hn : n.length ≤ 9223372036854775807) (hq : nameL n = true) (hf : find n l = none) (h40 : 40 ≤ l.length) :
    Calls Tryz.prog 25 #[dP p, .string (B n), .string (B s)] w fun x w' => x = .returned (.int .i64 4) ∧ Mv bs w p m room l loc l w' := by
  obtain ⟨d, syn, a, c, is, hlk, -⟩ := h.lk n hn
  have hrun := hlk.run
  have hi := hlk.is
  rw [hf] at hi
  have hi2 : is = false := hi.symm
  subst hi2
  have c1 := h.cells.2
  have h40i : ((40 : Int) ≤ (l.length : Int)) := by omega
  have HB := Lib.hid ((Below.refl w.heap.size w).alloc (Nat.le_refl _) (.cells #[.slice a d.length c, .int .i64 (syn : Int)] 108))
  have HD := Lib.hid h
  have HQ := Lib.hid hq
  clear h hlk hq hi
  go_enter Tryz.func25, Tryz.ntmps25
  go_wp2_with fail
  refine (Name_l n _ (by omega)).mono ?_
  rintro x w3 ⟨rfl, hb3⟩
  rw [HQ.out]
  have HB3 := Lib.hid (HB.out.trans (hb3.mono HB.out.size))
  have HD3 := Lib.hid (HD.out.below HB3.out)
  have c3 := HD3.out.cells.2
  have kl := HD3.out.len
  have HM := Lib.hid (Mv.same HD.out HB3.out)
  clear hb3 c1
  go_wp2
  go_ret
  exact ⟨rfl, HM.out⟩
set_option maxHeartbeats 4000000 in
set_option maxRecDepth 100000 in
theorem app_full (h : DA bs w p m room l loc) (hs : Sorted l) (hl : l.length ≤ 1000) (hro : room ≤ 2000000000) (hn : n.length ≤ 9223372036854775807) (hsl : s.length ≤ 2000000000) (hq : nameL n = true) (u : Nat) (HU : Hid (used l = u)) (hu : u ≤ 2000000000) (is : Bool) (HI : Hid ((find n l).isSome = is)) (h40 : is = false → l.length < 40) (hfu : room < u + s.length) :
    Calls Tryz.prog 25 #[dP p, .string (B n), .string (B s)] w fun x w' => x = .returned (.int .i64 8) ∧ Mv bs w p m room l loc l w' := by
  obtain ⟨d, syn, a, c, is2, hlk, hlen⟩ := h.lk n hn
  obtain rfl : is2 = is := hlk.is.symm.trans HI.out
  have hrun := hlk.run
  have c1 := h.cells.2
  have hri : (room : Int) ≤ 2000000000 := by omega
  have hui : (u : Int) ≤ 2000000000 := by omega
  have hwr : IntKind.i64.wrap ((room : Int) - (u : Int)) = (room : Int) - (u : Int) := IntWalk.i64_in _ ⟨by omega, by omega⟩
  have hfi : (room : Int) - (u : Int) < (s.length : Int) := by omega
  have hbx := (Below.refl w.heap.size w).alloc (Nat.le_refl _) (.cells #[.slice a d.length c, .int .i64 (syn : Int)] 108)
  have HB := Lib.hid hbx
  have HD := Lib.hid h
  have HQ := Lib.hid hq
  have HLK := Lib.hid hlk
  clear h hlk hq hlen hbx HI
  go_enter Tryz.func25, Tryz.ntmps25
  go_wp2_with fail
  refine (Name_l n _ (by omega)).mono ?_
  rintro x w3 ⟨rfl, hb3⟩
  rw [HQ.out]
  have e0 := box_at hb3 0
  have e1 := box_at hb3 1
  simp at e0 e1
  have HE := Lib.hid (And.intro e0 e1)
  have HB3 := Lib.hid (HB.out.trans (hb3.mono HB.out.size))
  have HD3 := Lib.hid (HD.out.below HB3.out)
  have c3 := HD3.out.cells.2
  have kl := HD3.out.len
  have HUS : Hid (∀ a, Below w3.heap.size w3 a → Calls Tryz.prog 34 #[dP p] a fun x w' => x = .returned (.int .i64 (u : Int)) ∧ Below a.heap.size a w') := Lib.hid fun a hb => by
    have := used_l (HD3.out.below hb) hs (by rw [HU.out]; omega)
    rw [HU.out] at this
    exact this
  have hS : w3.cell? ⟨p, 0, none⟩ = some (.int .i64 (room : Int)) ∧ Below w3.heap.size w3 w3 := ⟨HD3.out.cells.1, Below.refl _ _⟩
  clear hb3 c1 e0 e1 hrun
  cases is2
  · have h40i : ¬ ((40 : Int) ≤ (l.length : Int)) := by have := h40 rfl; omega
    go_wp2
    go_region_held3 (fun w' => w'.cell? ⟨p, 0, none⟩ = some (.int .i64 (room : Int)) ∧ Below w3.heap.size w3 w')
      (first | assumption | exact R3_drew (by assumption) | exact R3_call (by assumption) (by assumption))
      (first | (go_at_call 34; with_reducible refine (HUS.out _ (And.right (by assumption))).mono ?_; rintro x w4 ⟨rfl, hq4⟩))
    rename_i hHeld
    have HM := Lib.hid (Mv.same HD.out (HB3.out.trans (hHeld.2.mono HB3.out.size)))
    clear hHeld hS c3 kl
    go_wp2
    go_ret
    exact ⟨rfl, HM.out⟩
  · go_wp2
    go_region_held3 (fun w' => w'.cell? ⟨p, 0, none⟩ = some (.int .i64 (room : Int)) ∧ Below w3.heap.size w3 w')
      (first | assumption | exact R3_drew (by assumption) | exact R3_call (by assumption) (by assumption))
      (first | (go_at_call 34; with_reducible refine (HUS.out _ (And.right (by assumption))).mono ?_; rintro x w4 ⟨rfl, hq4⟩))
    rename_i hHeld
    have HM := Lib.hid (Mv.same HD.out (HB3.out.trans (hHeld.2.mono HB3.out.size)))
    clear hHeld hS c3 kl
    go_wp2
    go_ret
    exact ⟨rfl, HM.out⟩
theorem used_memb {f : F} : ∀ {l : List F}, f ∈ l → f.data.length ≤ used l
  | g :: l, h => by
    rcases List.mem_cons.1 h with rfl | h
    · rw [used]; omega
    · have := used_memb h
      rw [used]; omega
theorem app_apart {w5 : World} (h : DA bs w p m room l loc) (hsz : w.heap.size ≤ w5.heap.size) {n : Tx} {v v2 : Value} (hap : ∀ g ∈ l, g.name ≠ n → ∀ k, v.ownBlock = some k → (loc g.name).ownBlock ≠ some k) (hw : v2.ownBlock = v.ownBlock ∨ ∃ k, w5.heap.size ≤ k ∧ v2.ownBlock = some k) :
    ∀ g ∈ l, g.name ≠ n → ∀ k, v2.ownBlock = some k → (loc g.name).ownBlock ≠ some k := fun g hg hne k hk => by
  rcases hw with e | ⟨k2, hk2, e⟩
  · exact hap g hg hne k (by rw [← e]; exact hk)
  · intro e2
    have := (h.low (.inr (.inr ⟨g, hg, e2⟩))).2
    rw [hk] at e
    have := Option.some.inj e
    omega
set_option maxHeartbeats 4000000 in
set_option maxRecDepth 100000 in
theorem app_ok (h : DA bs w p m room l loc) (hs : Sorted l) (hl : l.length ≤ 1000) (hro : room ≤ 2000000000) (hn : n.length ≤ 9223372036854775807) (hsl : s.length ≤ 2000000000) (hq : nameL n = true) (u : Nat) (HU : Hid (used l = u)) (hu : u ≤ 2000000000) (is : Bool) (HI : Hid ((find n l).isSome = is)) (h40 : is = false → l.length < 40) (hfu : u + s.length ≤ room) (f2 : F) (HF : Hid ((match find n l with | some f => (⟨n, f.data ++ s, f.syn⟩ : F) | none => ⟨n, s, 0⟩) = f2)) :
    Calls Tryz.prog 25 #[dP p, .string (B n), .string (B s)] w fun x w' => x = .returned (.int .i64 0) ∧ Mv bs w p m room l loc (D.put f2 l) w' := by
  obtain ⟨d, syn, a, c, is2, hlk, hlen⟩ := h.lk n hn
  obtain rfl : is2 = is := hlk.is.symm.trans HI.out
  have hrun := hlk.run
  have c1 := h.cells.2
  have hri : (room : Int) ≤ 2000000000 := by omega
  have hui : (u : Int) ≤ 2000000000 := by omega
  have hwr : IntKind.i64.wrap ((room : Int) - (u : Int)) = (room : Int) - (u : Int) := IntWalk.i64_in _ ⟨by omega, by omega⟩
  have hfi : ¬ ((room : Int) - (u : Int) < (s.length : Int)) := by omega
  have hdl : d.length ≤ 2000000000 := by
    rw [hlen]
    cases hf : find n l with
    | none => exact Nat.zero_le _
    | some f =>
      have := used_memb (find_some hf).1
      have := HU.out
      show f.data.length ≤ _
      omega
  have HDT : Hid (f2 = ⟨n, d ++ s, syn⟩) := Lib.hid (HF.out.symm.trans (hlk.dat s))
  clear HF
  have hbx := (Below.refl w.heap.size w).alloc (Nat.le_refl _) (.cells #[.slice a d.length c, .int .i64 (syn : Int)] 108)
  have HB := Lib.hid hbx
  have HD := Lib.hid h
  have HQ := Lib.hid hq
  have HLK := Lib.hid hlk
  clear h hlk hq hlen hbx HI
  go_enter Tryz.func25, Tryz.ntmps25
  go_wp2_with fail
  refine (Name_l n _ (by omega)).mono ?_
  rintro x w3 ⟨rfl, hb3⟩
  rw [HQ.out]
  have e0 := box_at hb3 0
  have e1 := box_at hb3 1
  simp at e0 e1
  have HE := Lib.hid (And.intro e0 e1)
  have HB3 := Lib.hid (HB.out.trans (hb3.mono HB.out.size))
  have HD3 := Lib.hid (HD.out.below HB3.out)
  have c3 := HD3.out.cells.2
  have kl := HD3.out.len
  have HUS : Hid (∀ a, Below w3.heap.size w3 a → Calls Tryz.prog 34 #[dP p] a fun x w' => x = .returned (.int .i64 (u : Int)) ∧ Below a.heap.size a w') := Lib.hid fun a hb => by
    have := used_l (HD3.out.below hb) hs (by rw [HU.out]; omega)
    rw [HU.out] at this
    exact this
  have hS : w3.cell? ⟨p, 0, none⟩ = some (.int .i64 (room : Int)) ∧ Below w3.heap.size w3 w3 := ⟨HD3.out.cells.1, Below.refl _ _⟩
  clear hb3 c1 e0 e1 hrun
  cases is2
  · have h40i : ¬ ((40 : Int) ≤ (l.length : Int)) := by have := h40 rfl; omega
    go_wp2
    go_region_held3 (fun w' => w'.cell? ⟨p, 0, none⟩ = some (.int .i64 (room : Int)) ∧ Below w3.heap.size w3 w')
      (first | assumption | exact R3_drew (by assumption) | exact R3_call (by assumption) (by assumption))
      (first | (go_at_call 34; with_reducible refine (HUS.out _ (And.right (by assumption))).mono ?_; rintro x w4 ⟨rfl, hq4⟩))
    rename_i hHeld
    have HBW := Lib.hid hHeld.2
    have b0 := keeps HBW.out _ _ HE.out.1
    have b1 := keeps HBW.out _ _ HE.out.2
    have HB5 := Lib.hid (HB3.out.trans (HBW.out.mono HB3.out.size))
    have HR5 := Lib.hid (own_below HLK.out.row HB5.out)
    have HD5 := Lib.hid (HD.out.below HB5.out)
    clear hHeld hS c3 kl
    go_wp2_with fail
    obtain ⟨dd, HDD⟩ : ∃ dd, Hid (d ++ s = dd) := ⟨_, Lib.hid rfl⟩
    have cW := Lib.hid (with_l a c (syn : Int) d s _ HR5.out (by have := (HD5.out.low (.inl rfl)); omega) (by omega))
    rw [HDD.out] at cW
    rw [HDD.out] at HDT
    refine cW.out.mono ?_
    rintro x w6 ⟨⟨a2, c2, rfl, hown, hwh⟩, hg6⟩
    have HO6 := Lib.hid hown
    have HW6 := Lib.hid hwh
    have HG6 := Lib.hid hg6
    have HDW := Lib.hid (HD5.out.wrote HR5.out HLK.out.apart hg6)
    have HAP := Lib.hid (app_apart HD.out HB5.out.size HLK.out.apart hwh)
    clear hown hwh hg6 b0 b1 cW
    go_wp2_with fail
    refine (put_l ⟨n, dd, syn⟩ HDW.out hs hl hn a2 c2 HO6.out HAP.out).mono ?_
    rintro x w7 ⟨rfl, hd7, hg7⟩
    have HM : Hid (Mv bs w p m room l loc (D.put ⟨n, dd, syn⟩ l) w7) := Lib.hid ⟨⟨_, hd7, grow_put ⟨n, dd, syn⟩ _ hs fun k hk => by
      rcases HW6.out with e | ⟨k2, hk2, e⟩
      · exact .inl (HLK.out.blk k (by rw [← e]; exact hk))
      · rw [hk] at e
        have := Option.some.inj e
        have := HB5.out.size
        exact .inr (by omega)⟩, But.trans (But.of_below HB5.out) (But.trans (but_grown HG6.out fun k e => HLK.out.blk k e) (but_grown hg7 fun k e => by cases e; exact .inr (.inl rfl)))⟩
    clear hd7 hg7
    go_wp2
    go_ret
    rw [HDT.out]
    exact ⟨rfl, HM.out⟩
  · go_wp2
    go_region_held3 (fun w' => w'.cell? ⟨p, 0, none⟩ = some (.int .i64 (room : Int)) ∧ Below w3.heap.size w3 w')
      (first | assumption | exact R3_drew (by assumption) | exact R3_call (by assumption) (by assumption))
      (first | (go_at_call 34; with_reducible refine (HUS.out _ (And.right (by assumption))).mono ?_; rintro x w4 ⟨rfl, hq4⟩))
    rename_i hHeld
    have HBW := Lib.hid hHeld.2
    have b0 := keeps HBW.out _ _ HE.out.1
    have b1 := keeps HBW.out _ _ HE.out.2
    have HB5 := Lib.hid (HB3.out.trans (HBW.out.mono HB3.out.size))
    have HR5 := Lib.hid (own_below HLK.out.row HB5.out)
    have HD5 := Lib.hid (HD.out.below HB5.out)
    clear hHeld hS c3 kl
    go_wp2_with fail
    obtain ⟨dd, HDD⟩ : ∃ dd, Hid (d ++ s = dd) := ⟨_, Lib.hid rfl⟩
    have cW := Lib.hid (with_l a c (syn : Int) d s _ HR5.out (by have := (HD5.out.low (.inl rfl)); omega) (by omega))
    rw [HDD.out] at cW
    rw [HDD.out] at HDT
    refine cW.out.mono ?_
    rintro x w6 ⟨⟨a2, c2, rfl, hown, hwh⟩, hg6⟩
    have HO6 := Lib.hid hown
    have HW6 := Lib.hid hwh
    have HG6 := Lib.hid hg6
    have HDW := Lib.hid (HD5.out.wrote HR5.out HLK.out.apart hg6)
    have HAP := Lib.hid (app_apart HD.out HB5.out.size HLK.out.apart hwh)
    clear hown hwh hg6 b0 b1 cW
    go_wp2_with fail
    refine (put_l ⟨n, dd, syn⟩ HDW.out hs hl hn a2 c2 HO6.out HAP.out).mono ?_
    rintro x w7 ⟨rfl, hd7, hg7⟩
    have HM : Hid (Mv bs w p m room l loc (D.put ⟨n, dd, syn⟩ l) w7) := Lib.hid ⟨⟨_, hd7, grow_put ⟨n, dd, syn⟩ _ hs fun k hk => by
      rcases HW6.out with e | ⟨k2, hk2, e⟩
      · exact .inl (HLK.out.blk k (by rw [← e]; exact hk))
      · rw [hk] at e
        have := Option.some.inj e
        have := HB5.out.size
        exact .inr (by omega)⟩, But.trans (But.of_below HB5.out) (But.trans (but_grown HG6.out fun k e => HLK.out.blk k e) (but_grown hg7 fun k e => by cases e; exact .inr (.inl rfl)))⟩
    clear hd7 hg7
    go_wp2
    go_ret
    rw [HDT.out]
    exact ⟨rfl, HM.out⟩
end
end Go.Proofs.YtmfhipjceeijmaaGreatDoor.D

/-
  The landed disk's Clone.
-/
namespace Go.Proofs.YtmfhipjceeijmaaGreatDoor.D
open Go.RowKit Go.Maps
attribute [local go_sem] ext_Bd ext_Bl ext_Bt toList_B add_B size_B get_Bt

theorem find_filter {n : Tx} {q : F → Bool} : ∀ {l : List F}, Sorted l → find n (l.filter q) = match find n l with | some f => if q f = true then some f else none | none => none
  | [], _ => rfl
  | g :: l, hs => by
    obtain ⟨h1, h2⟩ := List.pairwise_cons.1 hs
    have ih := find_filter (n := n) (q := q) h2
    by_cases e : g.name = n
    · have hn : find n l = none := e ▸ find_behind h1
      rw [hn] at ih
      rw [find, if_pos e]
      by_cases hq : q g = true
      · rw [List.filter_cons, if_pos hq, find, if_pos e]
        simp [hq]
      · rw [List.filter_cons, if_neg hq, ih]
        simp [hq]
    · rw [find, if_neg e]
      by_cases hq : q g = true
      · rw [List.filter_cons, if_pos hq, find, if_neg e, ih]
      · rw [List.filter_cons, if_neg hq, ih]
theorem sorted_filter {q : F → Bool} {l : List F} (h : Sorted l) : Sorted (l.filter q) := List.Pairwise.sublist List.filter_sublist h
/-- Those that are no longer to come. -/
def doneL (left : Lit → Bool) (l : List F) : List F := l.filter fun f => !left (.string f.name)
theorem done_none {left : Lit → Bool} {l : List F} (h : ∀ f ∈ l, left (.string f.name) = true) : doneL left l = [] := by
  unfold doneL
  rw [List.filter_eq_nil_iff]
  intro f hf
  simp [h f hf]
theorem done_all {left : Lit → Bool} {l : List F} (h : ∀ kl, left kl = false) : doneL left l = l := by
  unfold doneL
  rw [List.filter_eq_self]
  intro f _
  simp [h]
theorem done_step {left : Lit → Bool} {l : List F} {f : F} (hs : Sorted l) (hf : find f.name l = some f) (hk : left (.string f.name) = true) : put f (doneL left l) = doneL (fun z => left z && !z.sameKey (.string f.name)) l ∧ find f.name (doneL left l) = none := by
  have h0 : find f.name (doneL left l) = none := by
    unfold doneL
    rw [find_filter hs, hf]
    simp [hk]
  refine ⟨D.ext (sorted_put (sorted_filter hs)) (sorted_filter hs) fun n => ?_, h0⟩
  by_cases e : f.name = n
  · subst e
    rw [find_put]
    unfold doneL
    rw [find_filter hs, hf]
    simp [hk, key_eq]
  · rw [find_put_ne e]
    unfold doneL
    rw [find_filter hs, find_filter hs]
    cases hn : find n l with
    | none => rfl
    | some g =>
      obtain ⟨_, rfl⟩ := find_some hn
      simp [key_ne (fun h => e h.symm)]
theorem done_len {left : Lit → Bool} (l : List F) : (doneL left l).length ≤ l.length := List.length_filter_le _ _
/-- A map of files, without a disk. -/
structure DM (bs : Nat) (w : World) (m : Nat) (l : List F) (loc : Tx → Value) : Prop where
  lom : bs ≤ m
  map : w.ownsMap Tryz.prog 9 Rv m l.length (mapD (eD loc) l)
  row : ∀ f ∈ l, w.ownsRow bs 5 1 (loc f.name) f.data.length (Lib.byteCells f.data)
  apart : ∀ f ∈ l, ∀ g ∈ l, f.name ≠ g.name → ∀ k, (loc f.name).ownBlock = some k → (loc g.name).ownBlock ≠ some k
section
variable {bs : Nat} {w : World} {p m room : Nat} {l : List F} {loc : Tx → Value}
theorem DM.ext (h : DM bs w m l loc) {w' : World} (hk : ∀ k, bs ≤ k → k < w.heap.size → w'.heap[k]? = w.heap[k]?) : DM bs w' m l loc := by
  refine ⟨h.lom, ?_, fun f hf => row_ext (h.row f hf) fun k e => hk k (own_blk (h.row f hf) e).1 (own_lt (h.row f hf) e), h.apart⟩
  have hlt := h.map.lt
  obtain ⟨es, clock, hb, r⟩ := h.map
  exact ⟨es, clock, by rw [hk m h.lom hlt]; exact hb, r⟩
theorem DM.below (h : DM bs w m l loc) {w' : World} (hb : Below w.heap.size w w') : DM bs w' m l loc := h.ext fun k _ hk => hb.block k hk
theorem DM.grown (h : DM bs w m l loc) {w' : World} {r : Nat} (hg : w.grownBy w' (some r)) (hm : r ≠ m) (hr : ∀ f ∈ l, (loc f.name).ownBlock ≠ some r) : DM bs w' m l loc := by
  refine ⟨h.lom, ?_, fun f hf => row_ext (h.row f hf) fun k e => hg.block k (own_lt (h.row f hf) e) fun e2 => hr f hf (by rw [e, e2]), h.apart⟩
  exact h.map.kept hg fun e => hm (Option.some.inj e).symm
theorem DM.store (h : DM bs w m l loc) (hs : Sorted l) (hl : l.length ≤ 1000) (f : F) (hn : f.name.length ≤ 9223372036854775807) (a : Option Addr) (c : Nat) (hr : w.ownsRow bs 5 1 (.slice a f.data.length c) f.data.length (Lib.byteCells f.data))
    (hap : ∀ g ∈ l, ∀ k, (Value.slice a f.data.length c).ownBlock = some k → (loc g.name).ownBlock ≠ some k) :
    ∃ w', (Instr.mapUpdate 99 (.map (some m)) (.string (B f.name)) (.agg #[.slice a f.data.length c, .int .i64 (f.syn : Int)])).run Tryz.prog w = .ok () w' ∧ DM bs w' m (put f l) (upd loc f.name (.slice a f.data.length c)) ∧ w.grownBy w' (some m) := by
  obtain ⟨w', hrun, hown, hturn⟩ := h.map.store (string_keyed Tryz.underlying9) Tryz.underlying99 (by unfold maxLen; omega) (key_B f.name hn) (rv_mk a f.data.length c (f.syn : Int))
  rw [put_upd loc _ hs] at hown
  have hne : ∀ k : Nat, (∃ c, w.heap[k]? = some (.cells c 5 (0, 0))) → w'.heap[k]? = w.heap[k]? := fun k ⟨c, hk⟩ => by
    refine hturn.grown.block k (Array.getElem?_eq_some_iff.1 hk).1 fun e => ?_
    cases e
    obtain ⟨es, clock, hb, _⟩ := h.map
    rw [hb] at hk
    cases hk
  refine ⟨w', hrun, ⟨h.lom, owns_tight hown, fun g hg => ?_, fun f1 h1 g1 h2 hfg k hk => ?_⟩, hturn.grown⟩
  · rcases put_mem hs hg with rfl | ⟨hg, e⟩
    · rw [upd_same]
      exact row_ext hr fun k hk => hne k (own_blk hr hk).2
    · rw [upd_ne e]
      exact row_ext (h.row g hg) fun k hk => hne k (own_blk (h.row g hg) hk).2
  · rcases put_mem hs h1 with e3 | ⟨h3, e1⟩
    · subst e3
      rcases put_mem hs h2 with rfl | ⟨h2, e2⟩
      · exact absurd rfl hfg
      · rw [upd_same] at hk
        rw [upd_ne e2]
        exact hap g1 h2 k hk
    · rw [upd_ne e1] at hk
      rcases put_mem hs h2 with e3 | ⟨h4, e2⟩
      · rw [e3, upd_same]
        exact fun e => hap f1 h3 k e hk
      · rw [upd_ne e2]
        exact h.apart f1 h3 g1 h4 hfg k hk
theorem DA.nam (h : DA bs w p m room l loc) {f : F} (hf : f ∈ l) : f.name.length ≤ 9223372036854775807 := by
  have := strKeys_le h.map Tryz.underlying9
  rw [keys_mapD] at this
  have h2 := this f.name (List.mem_map.2 ⟨f, hf, rfl⟩)
  unfold maxLen at h2
  exact h2
/-- A copy of the disk. -/
def CloneAt (w : World) (room : Nat) (l : List F) (x : Ending) (w' : World) : Prop :=
  ∃ q m2 loc2, x = .returned (dP q) ∧ DA w.heap.size w' q m2 room l loc2
theorem make_hint (n : Int) (w : World) : (Instr.makeMap 99 (some (.int .i64 n))).run Tryz.prog w = .ok (.map (some w.heap.size)) (w.alloc (.map #[] 0)) := by kernel_rfl
theorem wpList_upd {P : Program} {w : World} {ops : Array Oper} {rest : List Oper} {o : Oper} {a : Act} {Q : Exit → Act → World → Prop} (hgd : o.guard = none) (mm kk vv : Operand) (t : TypeId) (hop : o.op = Op.mapUpdate t mm kk vv)
    {b : Nat} {key val : Value} (hm : a.eval mm = .map (some b)) (hk : a.eval kk = key) (hv : a.eval vv = val) {R : World → Prop} (hrun : ∃ w', (Instr.mapUpdate t (.map (some b)) key val).run P w = .ok () w' ∧ R w') (h : ∀ w', R w' → wpList P ops Q rest (a.put o.dst undef) w') : wpList P ops Q (o :: rest) a w := by
  refine wpList_plain hgd fun K' hK' => ?_
  obtain ⟨w', hr, hR⟩ := hrun
  unfold Oper.wp
  simp [execOp, hop, hm, hk, hv, hr, Result.andThen]
  exact hK' _ _ (h w' hR)
theorem DM.off {r n : Nat} {D : DataW Value} {left : Lit → Bool} {cnt m2 : Nat} {k : List F} {loc2 : Tx → Value} {b2 : Nat} (h : DM b2 w m2 k loc2) (hrg : w.ranges Tryz.prog 9 Rv m r n D left cnt) : ∀ f ∈ k, (loc2 f.name).ownBlock ≠ some r := fun f hf e => by
  obtain ⟨_, c, hc⟩ := own_blk (h.row f hf) e
  obtain ⟨es, clock, since, seen, c0, _, _, _, _, hr, _⟩ := hrg
  rw [hr] at hc
  cases hc
end
end Go.Proofs.YtmfhipjceeijmaaGreatDoor.D

/-
  The landed disk's Crash.
-/
namespace Go.Proofs.YtmfhipjceeijmaaGreatDoor.D
open Go.RowKit Go.Maps
attribute [local go_sem] ext_Bd ext_Bl ext_Bt toList_B add_B size_B get_Bt

theorem own_cut {w : World} {bs c k : Nat} {a : Option Addr} {d : Tx} (h : w.ownsRow bs 5 1 (.slice a d.length c) d.length (Lib.byteCells d)) (hk : k ≤ d.length) : w.ownsRow bs 5 1 (.slice a k c) k (Lib.byteCells (d.take k)) := by
  refine ⟨by simp [Lib.byteCells]; omega, ?_⟩
  rcases h.2 with ⟨hv, h0⟩ | ⟨g, cap, cur, hv, hb, hg, hn, hc, hs, ht⟩
  · obtain rfl : k = 0 := by omega
    rw [h0] at hv
    cases hv
    exact .inl ⟨rfl, rfl⟩
  · cases hv
    refine .inr ⟨g, c, cur, rfl, hb, hg, by omega, hc, hs, ?_⟩
    have : Lib.byteCells (d.take k) = (Lib.byteCells d).take k := by simp [Lib.byteCells, List.map_take]
    rw [this, ← ht, List.take_take]
    congr 1
    omega
theorem blk_len (a : Option Addr) (n k c : Nat) : (Value.slice a n c).ownBlock = (Value.slice a k c).ownBlock := by cases a <;> rfl
section
variable {bs : Nat} {w : World} {p m room : Nat} {l : List F} {loc : Tx → Value}
theorem crash_grow {k c : Nat} {lt2 l3 : List F} {loc2 : Tx → Value} {f f3 : F} {a : Option Addr} {n : Nat} (hg : Grow (SA p m l loc) w (SA p m lt2 loc2)) (hb : ∀ q, (Value.slice a n c).ownBlock = some q → SA p m lt2 loc2 q) (hp : put f3 lt2 = l3) (hs : Sorted lt2) (hf : f3 = f) :
    Grow (SA p m l loc) w (SA p m l3 (upd loc2 f.name (.slice a k c))) := fun q hq => by
  subst hf
  rw [← hp] at hq
  rcases hq with rfl | rfl | ⟨g, hg2, hk⟩
  · exact .inl (.inl rfl)
  · exact .inl (.inr (.inl rfl))
  · rcases put_mem hs hg2 with rfl | ⟨hg2, e⟩
    · rw [upd_same] at hk
      exact hg q (hb q (by rw [blk_len a n k c]; exact hk))
    · rw [upd_ne e] at hk
      exact hg q (.inr (.inr ⟨g, hg2, hk⟩))
theorem names_kept {w1 wr : World} {q : Addr} {u : Tx} (h : DA bs w1 p m room l loc) (hg : w1.grownBy wr (some m)) (hc : w1.cell? q = some (.string (B u))) : wr.cell? q = some (.string (B u)) := by
  rw [World.cell?_of_block (hg.block q.block (World.block_lt_of_cell? w1 q hc) fun e => ?_)]
  · exact hc
  · have e2 : q.block = m := Option.some.inj e
    obtain ⟨es, clock, hb, _⟩ := h.map
    simp [World.cell?, e2, hb] at hc
set_option maxHeartbeats 8000000 in
set_option maxRecDepth 100000 in
theorem crash_l (h : DA bs w p m room l loc) (hs : Sorted l) (hl : l.length ≤ 1000) (hsy : ∀ f ∈ l, f.syn ≤ f.data.length) (hdl : ∀ f ∈ l, f.data.length ≤ 100000000000) (ks : List Int) (v : Value) (hk : ∀ w', But (SA p m l loc) w w' → ReadsI w' v ks) :
    Calls Tryz.prog 28 #[dP p, v] w fun x w' => x = .returned (.tuple #[]) ∧ Mv bs w p m room l loc (D.crash ks l) w' := by
  have HD0 := Lib.hid h
  have HKE := Lib.hid hk
  have HS := Lib.hid hs
  have HSYA := Lib.hid hsy
  have HDLA := Lib.hid hdl
  obtain ⟨ka, kc, hv, -⟩ := hk w (But.refl _ w)
  subst hv
  clear h hk hs hsy hdl
  go_enter Tryz.func28, Tryz.ntmps28
  go_wp2_with fail
  refine (list_l HD0.out HS.out hl).mono ?_
  rintro x w1 ⟨⟨vn, rfl, hrn⟩, hb1⟩
  have HB1 := Lib.hid hb1
  have HRN := Lib.hid hrn
  have HD1 := Lib.hid (HD0.out.below hb1)
  obtain ⟨na, nc, hvn, -⟩ := hrn
  rw [strCells_len, List.length_map] at hvn
  subst hvn
  clear hb1
  go_wp2
  go_loopw [10] (fun i wr => ∃ (j : Nat) (loc2 : Tx → Value), i = .int .i64 j ∧ j ≤ l.length ∧ DA bs wr p m room (crashTo ks l j) loc2 ∧ Grow (SA p m l loc) w (SA p m (crashTo ks l j) loc2) ∧ w1.grownBy wr (some m)) (fun i _ => l.length - (intOf i).toNat)
  case atStart => exact ⟨0, loc, rfl, Nat.zero_le _, by rw [crashTo_zero]; exact HD1.out, by rw [crashTo_zero]; exact fun q hq => .inl hq, ⟨rfl, rfl, rfl, Nat.le_refl _, fun _ _ _ => rfl⟩⟩
  case round =>
    obtain ⟨j, loc2, rfl, hj, hda, hgr, hg⟩ := hrel
    have HDA := Lib.hid hda
    have HGR := Lib.hid hgr
    have HG := Lib.hid hg
    clear hda hgr hg
    by_cases hlt : j < l.length
    · have hj1 : (j : Int) < (l.length : Int) := by omega
      have HBUT : Hid (But (SA p m l loc) w wr) := Lib.hid (But.trans (But.of_below HB1.out) (but_grown HG.out fun q e => by cases e; exact .inr (.inl rfl)))
      have HRI := Lib.hid (HKE.out wr HBUT.out)
      obtain ⟨_, _, hv, hx⟩ := HRN.out
      rw [strCells_len, List.length_map] at hv hx
      cases hv
      obtain ⟨b, off, hab, g0⟩ := hx j hlt
      subst hab
      have e0 : (strCells (l.map F.name))[j]? = some (.string (B l[j].name)) := by simp [strCells, hlt]
      rw [e0] at g0
      have y0 : wr.cell? ⟨b, off + j, none⟩ = some (.string (B l[j].name)) := names_kept HD1.out HG.out g0
      have HPUT := Lib.hid (crashTo_put (ks := ks) HS.out hlt)
      have hfd := HDA.out.found (crashTo_find (ks := ks) HS.out hlt)
      have hlk := HDA.out.look1 l[j].name (HD0.out.nam (List.getElem_mem hlt))
      have HSY := Lib.hid (HSYA.out _ (List.getElem_mem hlt))
      have hdl := HDLA.out _ (List.getElem_mem hlt)
      have HSL : Hid (Sorted (crashTo ks l j) ∧ (crashTo ks l j).length ≤ 1000) := Lib.hid ⟨sorted_names crashTo_names.symm HS.out, by rw [crashTo_len hj]; exact hl⟩
      have c1 := HDA.out.cells.2
      clear g0 e0 hx
      generalize l[j] = f at y0 HPUT hfd hlk HSY hdl
      obtain ⟨a, c, hfd⟩ := hfd
      rw [hfd.look] at hlk
      have HFD := Lib.hid hfd
      clear hfd
      by_cases hjk : j < ks.length
      · have hjk1 : (j : Int) < (ks.length : Int) := by omega
        obtain ⟨_, _, hv, hx⟩ := HRI.out
        cases hv
        obtain ⟨hzb, b2, off2, hab, x0⟩ := hx j hjk
        subst hab
        have HZ : Hid (ks.getD j 0 = ks[j]) := Lib.hid (by simp [List.getD_eq_getElem?_getD, hjk])
        clear hx
        generalize ks[j] = z at hzb x0 HZ
        have HZB := Lib.hid hzb
        clear hzb
        obtain ⟨k, HK⟩ : ∃ k, Hid (f.syn + min z.toNat (f.data.length - f.syn) = k) := ⟨_, Lib.hid rfl⟩
        obtain ⟨dd, HDD⟩ : ∃ dd, Hid (f.data.take k = dd ∧ dd.length = k) := ⟨_, Lib.hid ⟨rfl, by have := HK.out; have := HSY.out; rw [List.length_take]; omega⟩⟩
        have HCF : Hid (crashF (ks.getD j 0) f = ⟨f.name, dd, k⟩) := Lib.hid (by rw [HZ.out]; unfold crashF keepN; rw [HK.out, HDD.out.1])
        have hcap := HFD.out.cap
        have hsy := HSY.out
        go_wp2_with fail
        refine (torn_l a f.data.length c k f.syn z _ hcap hdl hsy HZB.out HK).mono ?_
        rintro x w4 ⟨rfl, hb4⟩
        have HB4 := Lib.hid hb4
        have HRO := Lib.hid (own_below (own_cut HFD.out.row (by have := HK.out; omega : k ≤ f.data.length)) hb4)
        rw [HDD.out.1] at HRO
        have HD4 := Lib.hid (HDA.out.below hb4)
        have cP := put_l ⟨f.name, dd, k⟩ (HD4.out.dw _) HSL.out.1 HSL.out.2 (show f.name.length ≤ _ from HDA.out.nam HFD.out.mem) a c (by rw [HDD.out.2]; exact HRO.out) (fun g hg hne q hq => HFD.out.apart g hg hne q (by rw [blk_len a _ dd.length c]; exact hq))
        dsimp only at cP
        rw [HDD.out.2] at cP
        have CP := Lib.hid cP
        clear cP hb4 y0 x0 hlk c1 hcap hsy
        go_wp2_with fail
        refine CP.out.mono ?_
        rintro x w5 ⟨rfl, hd5, hg5⟩
        rw [← HCF.out, HPUT.out] at hd5
        have HD5 := Lib.hid hd5
        have HG5 := Lib.hid (grown_trans HG.out (grown_trans (grown_below HB4.out (some m)) hg5))
        have HGR5 := Lib.hid (crash_grow (k := k) HGR.out (fun q hq => HFD.out.blk q hq) HPUT.out HSL.out.1 HCF.out)
        clear hd5 hg5 CP
        go_wp2
        go_roundw
        case rel => exact ⟨j + 1, _, by go_num, by omega, HD5.out, HGR5.out, HG5.out⟩
        case measure => simp [intOf]; omega
      · have hjk1 : ¬ (j : Int) < (ks.length : Int) := by omega
        have HZ : Hid (ks.getD j 0 = 0) := Lib.hid (by simp [List.getD_eq_getElem?_getD, hjk])
        obtain ⟨k, HK⟩ : ∃ k, Hid (f.syn + min (0 : Int).toNat (f.data.length - f.syn) = k) := ⟨_, Lib.hid rfl⟩
        obtain ⟨dd, HDD⟩ : ∃ dd, Hid (f.data.take k = dd ∧ dd.length = k) := ⟨_, Lib.hid ⟨rfl, by have := HK.out; have := HSY.out; rw [List.length_take]; omega⟩⟩
        have HCF : Hid (crashF (ks.getD j 0) f = ⟨f.name, dd, k⟩) := Lib.hid (by rw [HZ.out]; unfold crashF keepN; rw [HK.out, HDD.out.1])
        have hcap := HFD.out.cap
        have hsy := HSY.out
        go_wp2_with fail
        refine (torn_l a f.data.length c k f.syn (0 : Int) _ hcap hdl hsy ⟨by omega, by omega⟩ HK).mono ?_
        rintro x w4 ⟨rfl, hb4⟩
        have HB4 := Lib.hid hb4
        have HRO := Lib.hid (own_below (own_cut HFD.out.row (by have := HK.out; omega : k ≤ f.data.length)) hb4)
        rw [HDD.out.1] at HRO
        have HD4 := Lib.hid (HDA.out.below hb4)
        have cP := put_l ⟨f.name, dd, k⟩ (HD4.out.dw _) HSL.out.1 HSL.out.2 (show f.name.length ≤ _ from HDA.out.nam HFD.out.mem) a c (by rw [HDD.out.2]; exact HRO.out) (fun g hg hne q hq => HFD.out.apart g hg hne q (by rw [blk_len a _ dd.length c]; exact hq))
        dsimp only at cP
        rw [HDD.out.2] at cP
        have CP := Lib.hid cP
        clear cP hb4 y0 hlk c1 hcap hsy
        go_wp2_with fail
        refine CP.out.mono ?_
        rintro x w5 ⟨rfl, hd5, hg5⟩
        rw [← HCF.out, HPUT.out] at hd5
        have HD5 := Lib.hid hd5
        have HG5 := Lib.hid (grown_trans HG.out (grown_trans (grown_below HB4.out (some m)) hg5))
        have HGR5 := Lib.hid (crash_grow (k := k) HGR.out (fun q hq => HFD.out.blk q hq) HPUT.out HSL.out.1 HCF.out)
        clear hd5 hg5 CP
        go_wp2
        go_roundw
        case rel => exact ⟨j + 1, _, by go_num, by omega, HD5.out, HGR5.out, HG5.out⟩
        case measure => simp [intOf]; omega
    · have hj1 : ¬ (j : Int) < (l.length : Int) := by omega
      obtain rfl : j = l.length := by omega
      have HF : Hid (Mv bs w p m room l loc (D.crash ks l) wr) := Lib.hid ⟨⟨loc2, by rw [← crashTo_end]; exact HDA.out, by rw [← crashTo_end]; exact HGR.out⟩, But.trans (But.of_below HB1.out) (but_grown HG.out fun q e => by cases e; exact .inr (.inl rfl))⟩
      go_wp2
      go_returns
      exact ⟨rfl, HF.out⟩
end
end Go.Proofs.YtmfhipjceeijmaaGreatDoor.D

/-
  The landed disk keeps its contracts.
-/
namespace Go.Proofs.YtmfhipjceeijmaaGreatDoor.D
open Go.RowKit Go.Maps

section
variable {bs : Nat} {w : World} {p m room : Nat} {l : List F} {loc : Tx → Value}
theorem DA.base (h : DA bs w p m room l loc) {b2 : Nat} (hb : b2 ≤ bs) : DA b2 w p m room l loc :=
  ⟨h.blk, Nat.le_trans hb h.lop, Nat.le_trans hb h.lom, h.map, fun f hf => own_base (h.row f hf) hb, h.apart⟩
def AtL (bs : Nat) (w : World) (p room : Nat) (l : List F) (S : Nat → Prop) : Prop := ∃ m loc, DA bs w p m room l loc ∧ S = SA p m l loc
theorem Mv.out {l2 : List F} {w' : World} (h : Mv bs w p m room l loc l2 w') : (∃ S2, AtL bs w' p room l2 S2 ∧ Grow (SA p m l loc) w S2) ∧ But (SA p m l loc) w w' := by
  obtain ⟨⟨loc2, hd, hg⟩, hb⟩ := h
  exact ⟨⟨_, ⟨m, loc2, hd, rfl⟩, hg⟩, hb⟩
theorem dat_le (hi : Inv room l) {f : F} (hf : f ∈ l) : f.data.length ≤ room := by
  have := used_memb hf
  have := hi.room
  omega
end
theorem calls_mv {P : Program} {fn : Nat} {args : Array Value} {w : World} {x0 : Ending} {bs p m room : Nat} {l l2 : List F} {loc : Tx → Value} (h : Calls P fn args w fun x w' => x = x0 ∧ Mv bs w p m room l loc l2 w') :
    Calls P fn args w fun x w' => x = x0 ∧ (∃ S2, AtL bs w' p room l2 S2 ∧ Grow (SA p m l loc) w S2) ∧ But (SA p m l loc) w w' := h.mono fun _ _ ⟨a, b⟩ => ⟨a, b.out⟩
theorem isSome_none {l : List F} {n : Tx} {is : Bool} (h : (find n l).isSome = is) (hf : find n l = none ∧ 40 ≤ l.length → False) : is = false → l.length < 40 := fun e => by
  subst e
  have : find n l = none := by cases hq : find n l with
    | none => rfl
    | some f => rw [hq] at h; cases h
  exact Nat.lt_of_not_le fun h2 => hf ⟨this, h2⟩
def landed : DC where
  At := AtL
  keep := fun ⟨m, loc, h, hS⟩ _ hk => ⟨m, loc, h.ext fun k h2 => hk k (by rw [hS]; exact h2), hS⟩
  low := fun ⟨m, loc, h, hS⟩ hk => h.low (by rw [hS] at hk; exact hk)
  typ := fun ⟨m, loc, h, hS⟩ hk => h.typ (by rw [hS] at hk; exact hk)
  new_ok := fun {bs w} room hb h1 h2 => (new_ok room w hb h1 h2).mono fun x w' ⟨⟨p, m, hx, hp, hm, hd⟩, hbl⟩ => ⟨⟨p, _, hx, ⟨m, fun _ => .slice none 0 0, hd _, rfl⟩, fun k hk => by
    rcases hk with rfl | rfl | ⟨f, hf, _⟩
    · exact hp
    · exact hm
    · cases hf⟩, hbl⟩
  new_bad := fun {w} room h => new_bad room w h
  append := fun {bs w p room l S} n s e l2 ⟨m, loc, h, hS⟩ hi hro hn hs he => by
    subst hS
    have hu := hi.room
    have hmny := hi.many
    unfold D.append at he
    split at he
    · rename_i hq
      cases he
      exact calls_mv (app_name n s h (by omega) hq)
    rename_i hq
    split at he
    · rename_i h40
      cases he
      exact calls_mv (app_long n s h (by omega) (by simpa using hq) h40.1 h40.2)
    rename_i h40
    split at he
    · rename_i hf
      cases he
      exact calls_mv (app_full n s h hi.sorted (by omega) (by omega) (by omega) (by omega) (by simpa using hq) _ (Lib.hid rfl) (by omega) _ (Lib.hid rfl) (isSome_none rfl h40) hf)
    · rename_i hf
      cases he
      exact calls_mv (app_ok n s h hi.sorted (by omega) (by omega) (by omega) (by omega) (by simpa using hq) _ (Lib.hid rfl) (by omega) _ (Lib.hid rfl) (isSome_none rfl h40) (by omega) _ (Lib.hid rfl))
  sync := fun {bs w p room l S} n e l2 ⟨m, loc, h, hS⟩ hi hro hn he => by
    subst hS
    have hmny := hi.many
    unfold D.sync at he
    cases hf : find n l with
    | none =>
      rw [hf] at he
      cases he
      exact calls_mv (sync_none h n (by omega) hf)
    | some f =>
      rw [hf] at he
      cases he
      exact calls_mv (sync_some h hi.sorted (by omega) n f (by omega) hf)
  rename := fun {bs w p room l S} a b e l2 ⟨m, loc, h, hS⟩ hi hro ha hb he => by
    subst hS
    have hmny := hi.many
    unfold D.rename at he
    cases hf : find a l with
    | none =>
      rw [hf] at he
      cases he
      exact calls_mv (ren_none h a b (by omega) hf)
    | some f =>
      rw [hf] at he
      dsimp only at he
      split at he
      · rename_i hq
        cases he
        exact calls_mv (ren_bad h a b f (by omega) (by omega) hf hq)
      · rename_i hq
        cases he
        exact calls_mv (ren_ok h hi.sorted (by omega) a b f (by omega) (by omega) hf (by simpa using hq))
  delete := fun {bs w p room l S} n e l2 ⟨m, loc, h, hS⟩ hi hro hn he => by
    subst hS
    unfold D.delete at he
    cases hf : find n l with
    | none =>
      rw [hf] at he
      cases he
      exact calls_mv (delete_none h n (by omega) hf)
    | some f =>
      rw [hf] at he
      cases he
      exact calls_mv (delete_some h n f (by omega) hf)
  crash := fun {bs w p room l S} ks v ⟨m, loc, h, hS⟩ hi hro hk _ => by
    subst hS
    have hmny := hi.many
    exact calls_mv (crash_l h hi.sorted (by omega) hi.syn (fun f hf => by have := dat_le hi hf; omega) ks v hk)
  read := fun {bs w p room l S} n s e ⟨m, loc, h, hS⟩ hi hro hn he => by
    unfold D.read at he
    cases hf : find n l with
    | none =>
      rw [hf] at he
      cases he
      exact read_none h n (by omega) hf
    | some f =>
      rw [hf] at he
      cases he
      exact read_some h n f (by omega) hf
  synced := fun {bs w p room l S} n e ⟨m, loc, h, hS⟩ hi hro hn he => by
    subst he
    exact synced_n h n (by omega)
  used := fun {bs w p room l S} ⟨m, loc, h, hS⟩ hi hro => used_l h hi.sorted (by have := hi.room; omega)
  list := fun {bs w p room l S} ⟨m, loc, h, hS⟩ hi hro => list_l h hi.sorted (by have := hi.many; omega)
end Go.Proofs.YtmfhipjceeijmaaGreatDoor.D
