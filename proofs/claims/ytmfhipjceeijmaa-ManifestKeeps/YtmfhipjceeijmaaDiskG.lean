/-
  The landed disk's calls: New, Delete, Rename, Append.
-/
import Derived.Test.YtmfhipjceeijmaaDiskF
namespace Go.Proofs.Ytmfhipjceeijmaa.D
open Go.RowKit Go.Maps
attribute [local go_sem] ext_Bd ext_Bl ext_Bt toList_B add_B size_B get_Bt

theorem wpList_del {P : Program} {w : World} {ops : Array Oper} {rest : List Oper} {o : Oper} {a : Act} {Q : Exit → Act → World → Prop} (hgd : o.guard = none) (mm x : Operand) (t k : TypeId) (hop : o.op = Op.call { callee := Callee.builtin Builtin.delete, args := #[mm, x], argTypes := #[t, k] })
    {b : Nat} {key : Value} (hm : a.eval mm = .map (some b)) (hx : a.eval x = key) {R : World → Prop} (hrun : ∃ w', (Builtin.delete_ #[t, k] o.type #[.map (some b), key]).run P w = .ok (.tuple #[]) w' ∧ R w') (h : ∀ w', R w' → wpList P ops Q rest (a.put o.dst (.tuple #[])) w') : wpList P ops Q (o :: rest) a w := by
  refine wpList_plain hgd fun K' hK' => ?_
  obtain ⟨w', hr, hR⟩ := hrun
  unfold Oper.wp
  simp [execOp, hop, resolve, invoke, builtin, hm, hx, hr, Result.andThen]
  exact hK' _ _ (h w' hR)
section
variable {bs : Nat} {w : World} {p m room : Nat} {l : List F} {loc : Tx → Value}
theorem DA.rowkeep (h : DA bs w p m room l loc) {w' : World} (hg : w.grownBy w' (some m)) {b2 n : Nat} {v : Value} {xs : List Value} (hr : w.ownsRow b2 5 1 v n xs) : w'.ownsRow b2 5 1 v n xs :=
  row_ext hr fun k hk => by
    obtain ⟨_, c, hc⟩ := own_blk hr hk
    refine hg.block k (Array.getElem?_eq_some_iff.1 hc).1 fun e => ?_
    cases e
    obtain ⟨es, clock, hb, _⟩ := h.map
    rw [hb] at hc
    cases hc
set_option maxHeartbeats 2000000 in
set_option maxRecDepth 100000 in
theorem delete_none (h : DA bs w p m room l loc) (n : Tx) (hn : n.length ≤ 9223372036854775807) (hf : find n l = none) :
    Calls Try.prog 34 #[dP p, .string (B n)] w fun x w' => x = .returned (.int .i64 6) ∧ Mv bs w p m room l loc l w' := by
  have hlk := h.look n hn
  rw [hf] at hlk
  have hlk2 : (Instr.lookup 57 (.map (some m)) (.string (B n)) true).run Try.prog w = .ok (.tuple #[.agg #[.slice none 0 0, .int .i64 0], .bool false]) w := hlk
  have c1 := h.cells.2
  have HB := Lib.hid (Mv.same h ((Below.refl w.heap.size w).alloc (Nat.le_refl _) (.cells #[.slice none 0 0, .int .i64 0] 55)))
  clear h hlk hf
  go_enter Try.func34, Try.ntmps34
  go_wp2
  go_ret
  exact ⟨rfl, HB.out⟩
set_option maxHeartbeats 2000000 in
set_option maxRecDepth 100000 in
theorem delete_some (h : DA bs w p m room l loc) (n : Tx) (f : F) (hn : n.length ≤ 9223372036854775807) (hf : find n l = some f) :
    Calls Try.prog 34 #[dP p, .string (B n)] w fun x w' => x = .returned (.int .i64 0) ∧ Mv bs w p m room l loc (del n l) w' := by
  obtain ⟨a, c, hfd⟩ := h.found hf
  have hlk := h.look n hn
  rw [hfd.look, hf] at hlk
  have hlk2 : (Instr.lookup 57 (.map (some m)) (.string (B n)) true).run Try.prog w = .ok (.tuple #[.agg #[.slice a f.data.length c, .int .i64 (f.syn : Int)], .bool true]) w := hlk
  have c1 := h.cells.2
  have hb := (Below.refl w.heap.size w).alloc (Nat.le_refl _) (.cells #[.slice a f.data.length c, .int .i64 (f.syn : Int)] 55)
  have HB := Lib.hid hb
  have HD := Lib.hid (h.below hb)
  have c2 := HD.out.cells.2
  clear h hlk hf hfd hb
  go_enter Try.func34, Try.ntmps34
  go_wp2_with (at_delete; refine wpList_del rfl _ _ _ _ rfl rfl rfl (HD.out.drop n hn _) ?_; rintro w5 ⟨hda, hturn⟩; have HD5 := Lib.hid hda; have HG5 := Lib.hid hturn.grown; clear hda hturn)
  go_ret
  exact ⟨rfl, ⟨loc, HD5.out, grow_del n⟩, But.trans (But.of_below HB.out) (but_grown HG5.out fun k e => by cases e; exact .inr (.inl rfl))⟩
set_option maxHeartbeats 2000000 in
set_option maxRecDepth 100000 in
theorem ren_none (h : DA bs w p m room l loc) (n t : Tx) (hn : n.length ≤ 9223372036854775807) (hf : find n l = none) :
    Calls Try.prog 36 #[dP p, .string (B n), .string (B t)] w fun x w' => x = .returned (.int .i64 6) ∧ Mv bs w p m room l loc l w' := by
  have hlk := h.look n hn
  rw [hf] at hlk
  have hlk2 : (Instr.lookup 57 (.map (some m)) (.string (B n)) true).run Try.prog w = .ok (.tuple #[.agg #[.slice none 0 0, .int .i64 0], .bool false]) w := hlk
  have c1 := h.cells.2
  have HB := Lib.hid (Mv.same h ((Below.refl w.heap.size w).alloc (Nat.le_refl _) (.cells #[.slice none 0 0, .int .i64 0] 55)))
  clear h hlk hf
  go_enter Try.func36, Try.ntmps36
  go_wp2
  go_ret
  exact ⟨rfl, HB.out⟩
set_option maxHeartbeats 2000000 in
set_option maxRecDepth 100000 in
theorem ren_bad (h : DA bs w p m room l loc) (n t : Tx) (f : F) (hn : n.length ≤ 9223372036854775807) (ht : t.length ≤ 9223372036854775807) (hf : find n l = some f) (hq : nameL t = false) :
    Calls Try.prog 36 #[dP p, .string (B n), .string (B t)] w fun x w' => x = .returned (.int .i64 1) ∧ Mv bs w p m room l loc l w' := by
  obtain ⟨a, c, hfd⟩ := h.found hf
  have hlk := h.look n hn
  rw [hfd.look, hf] at hlk
  have hlk2 : (Instr.lookup 57 (.map (some m)) (.string (B n)) true).run Try.prog w = .ok (.tuple #[.agg #[.slice a f.data.length c, .int .i64 (f.syn : Int)], .bool true]) w := hlk
  have c1 := h.cells.2
  have HB := Lib.hid ((Below.refl w.heap.size w).alloc (Nat.le_refl _) (.cells #[.slice a f.data.length c, .int .i64 (f.syn : Int)] 55))
  have HD := Lib.hid h
  have HQ := Lib.hid hq
  clear h hlk hf hfd hq
  go_enter Try.func36, Try.ntmps36
  go_wp2_with fail
  refine (Name_l t _ (by omega)).mono ?_
  rintro x w3 ⟨rfl, hb3⟩
  rw [HQ.out]
  have HM := Lib.hid (Mv.same HD.out (HB.out.trans (hb3.mono HB.out.size)))
  clear hb3
  go_wp2
  go_ret
  exact ⟨rfl, HM.out⟩
theorem ren_box (h : DA bs w p m room l loc) {w3 w5 : World} (hlt : w.heap.size < w3.heap.size) (hg : w3.grownBy w5 (some m)) {j : Nat} {u : Value} (e : w3.cell? ⟨w.heap.size, j, none⟩ = some u) : w5.cell? ⟨w.heap.size, j, none⟩ = some u := by
  rw [World.cell?_of_block (w := w3) (hg.block _ hlt fun e2 => by have := h.map.lt; have h3 : w.heap.size = m := Option.some.inj e2; omega)]
  exact e
set_option maxHeartbeats 4000000 in
set_option maxRecDepth 100000 in
theorem ren_ok (h : DA bs w p m room l loc) (hs : Sorted l) (hl : l.length ≤ 1000) (n t : Tx) (f : F) (hn : n.length ≤ 9223372036854775807) (ht : t.length ≤ 9223372036854775807) (hf : find n l = some f) (hq : nameL t = true) :
    Calls Try.prog 36 #[dP p, .string (B n), .string (B t)] w fun x w' => x = .returned (.int .i64 0) ∧ Mv bs w p m room l loc (D.put ⟨t, f.data, f.syn⟩ (del n l)) w' := by
  obtain ⟨a, c, hfd⟩ := h.found hf
  have hlk := h.look n hn
  rw [hfd.look, hf] at hlk
  have hlk2 : (Instr.lookup 57 (.map (some m)) (.string (B n)) true).run Try.prog w = .ok (.tuple #[.agg #[.slice a f.data.length c, .int .i64 (f.syn : Int)], .bool true]) w := hlk
  have c1 := h.cells.2
  have hb := (Below.refl w.heap.size w).alloc (Nat.le_refl _) (.cells #[.slice a f.data.length c, .int .i64 (f.syn : Int)] 55)
  have HB := Lib.hid hb
  have HD := Lib.hid h
  have HF := Lib.hid hfd
  have HQ := Lib.hid hq
  have HDL : Hid (Sorted (del n l) ∧ (del n l).length ≤ 1000) := Lib.hid ⟨sorted_del hs, by have := length_del (n := n) hs; omega⟩
  clear h hlk hf hfd hb hq
  go_enter Try.func36, Try.ntmps36
  go_wp2_with fail
  refine (Name_l t _ (by omega)).mono ?_
  rintro x w3 ⟨rfl, hb3⟩
  rw [HQ.out]
  have e0 := box_at hb3 0
  have e1 := box_at hb3 1
  simp at e0 e1
  have HB3 := Lib.hid (HB.out.trans (hb3.mono HB.out.size))
  have HD3 := Lib.hid (HD.out.below HB3.out)
  have c3 := HD3.out.cells.2
  have HLT : Hid (w.heap.size < w3.heap.size) := Lib.hid (by have := hb3.size; simp at this; omega)
  clear hb3 c1
  go_wp2_with (at_delete; refine wpList_del rfl _ _ _ _ rfl rfl rfl (HD3.out.drop n hn _) ?_; rintro w5 ⟨hda, hturn⟩; have HD5 := Lib.hid hda; have HG5 := Lib.hid hturn.grown; have e5 := ren_box HD.out HLT.out HG5.out e0; have e6 := ren_box HD.out HLT.out HG5.out e1; clear hda hturn e0 e1 c3)
  refine (put_l ⟨t, f.data, f.syn⟩ (HD5.out.dw _) HDL.out.1 HDL.out.2 ht a c (HD3.out.rowkeep HG5.out (own_below HF.out.row HB3.out)) fun g hg hne => HF.out.apart g (mem_del hg).1 (mem_del hg).2).mono ?_
  rintro x w6 ⟨rfl, hd6, hg6⟩
  have HM : Hid (Mv bs w p m room l loc (D.put ⟨t, f.data, f.syn⟩ (del n l)) w6) := Lib.hid ⟨⟨_, hd6, fun k hk => by
    rcases hk with rfl | rfl | ⟨g, hg, hk⟩
    · exact .inl (.inl rfl)
    · exact .inl (.inr (.inl rfl))
    · rcases put_mem HDL.out.1 hg with rfl | ⟨hg, e⟩
      · rw [upd_same] at hk
        exact .inl (HF.out.blk k hk)
      · rw [upd_ne e] at hk
        exact .inl (.inr (.inr ⟨g, (mem_del hg).1, hk⟩))⟩, But.trans (But.of_below HB3.out) (But.trans (but_grown HG5.out fun k e => by cases e; exact .inr (.inl rfl)) (but_grown hg6 fun k e => by cases e; exact .inr (.inl rfl)))⟩
  clear hd6 hg6
  go_wp2
  go_ret
  exact ⟨rfl, HM.out⟩
end
end Go.Proofs.Ytmfhipjceeijmaa.D
