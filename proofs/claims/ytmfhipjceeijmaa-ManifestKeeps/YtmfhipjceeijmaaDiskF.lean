/-
  The landed disk's calls: New, Read, Synced, Sync, Delete, Rename.
-/
import Derived.Test.YtmfhipjceeijmaaDiskE
import Derived.Test.YtmfhipjceeijmaaTextName
namespace Go.Proofs.Ytmfhipjceeijmaa.D
open Go.RowKit Go.Maps
attribute [local go_sem] ext_Bd ext_Bl ext_Bt toList_B add_B size_B get_Bt

section
variable {bs : Nat} {w : World} {p m room : Nat} {l : List F} {loc : Tx → Value}
/-- The disk behind a call that writes it. -/
def Mv (bs : Nat) (w : World) (p m room : Nat) (l : List F) (loc : Tx → Value) (l2 : List F) (w' : World) : Prop :=
  (∃ loc2, DA bs w' p m room l2 loc2 ∧ Grow (SA p m l loc) w (SA p m l2 loc2)) ∧ But (SA p m l loc) w w'
theorem Mv.same (h : DA bs w p m room l loc) {w' : World} (hb : Below w.heap.size w w') : Mv bs w p m room l loc l w' := ⟨⟨loc, h.below hb, fun _ hk => .inl hk⟩, But.of_below hb⟩
theorem but_grown {w w' : World} {S : Nat → Prop} {row : Option Nat} (h : w.grownBy w' row) (hr : ∀ k, row = some k → S k) : But S w w' :=
  ⟨h.os, h.tape, h.output, h.size, fun k hk hs => h.block k hk fun e => hs (hr k e.symm)⟩
theorem grow_put (f : F) (v : Value) (hs : Sorted l) (hv : ∀ k, v.ownBlock = some k → SA p m l loc k ∨ w.heap.size ≤ k) : Grow (SA p m l loc) w (SA p m (put f l) (upd loc f.name v)) := fun k hk => by
  rcases hk with rfl | rfl | ⟨g, hg, hk⟩
  · exact .inl (.inl rfl)
  · exact .inl (.inr (.inl rfl))
  · rcases put_mem hs hg with rfl | ⟨hg, e⟩
    · rw [upd_same] at hk
      exact hv k hk
    · rw [upd_ne e] at hk
      exact .inl (.inr (.inr ⟨g, hg, hk⟩))
theorem grow_del (n : Tx) : Grow (SA p m l loc) w (SA p m (del n l) loc) := fun k hk => by
  rcases hk with rfl | rfl | ⟨g, hg, hk⟩
  · exact .inl (.inl rfl)
  · exact .inl (.inr (.inl rfl))
  · exact .inl (.inr (.inr ⟨g, (mem_del hg).1, hk⟩))
/-- What is known of a file that is found. -/
structure Fd (bs : Nat) (w : World) (p m : Nat) (l : List F) (loc : Tx → Value) (n : Tx) (f : F) (a : Option Addr) (c : Nat) : Prop where
  look : lookV loc (find n l) = .agg #[.slice a f.data.length c, .int .i64 (f.syn : Int)]
  mem : f ∈ l
  nam : f.name = n
  row : w.ownsRow bs 5 1 (.slice a f.data.length c) f.data.length (Lib.byteCells f.data)
  apart : ∀ g ∈ l, g.name ≠ n → ∀ k, (Value.slice a f.data.length c).ownBlock = some k → (loc g.name).ownBlock ≠ some k
  blk : ∀ k, (Value.slice a f.data.length c).ownBlock = some k → SA p m l loc k
  cap : f.data.length ≤ c
theorem DA.found (h : DA bs w p m room l loc) {n : Tx} {f : F} (hf : find n l = some f) : ∃ a c, Fd bs w p m l loc n f a c := by
  obtain ⟨hm, rfl⟩ := find_some hf
  have hr := h.row f hm
  have hcap : ∃ a c, loc f.name = .slice a f.data.length c ∧ f.data.length ≤ c := by
    rcases hr.2 with ⟨hv, h0⟩ | ⟨g, cap, cur, hv, _, _, hle, _⟩
    · exact ⟨none, 0, by rw [hv, h0], by omega⟩
    · exact ⟨_, cap, hv, hle⟩
  obtain ⟨a, c, e, hc⟩ := hcap
  refine ⟨a, c, ⟨?_, hm, rfl, by rw [e] at hr; exact hr, fun g hg hne k hk => ?_, fun k hk => .inr (.inr ⟨f, hm, by rw [e]; exact hk⟩), hc⟩⟩
  · rw [hf]
    show fV loc f = _
    unfold fV
    rw [e]
  · exact h.apart f hm g hg (fun e2 => hne e2.symm) k (by rw [e]; exact hk)

set_option maxHeartbeats 2000000 in
set_option maxRecDepth 100000 in
theorem read_none (h : DA bs w p m room l loc) (n : Tx) (hn : n.length ≤ 9223372036854775807) (hf : find n l = none) :
    Calls Try.prog 43 #[dP p, .string (B n)] w fun x w' => x = .returned (.tuple #[.string (B []), .int .i64 6]) ∧ Below w.heap.size w w' := by
  have hlk := h.look n hn
  rw [hf] at hlk
  have hlk2 : (Instr.lookup 57 (.map (some m)) (.string (B n)) true).run Try.prog w = .ok (.tuple #[.agg #[.slice none 0 0, .int .i64 0], .bool false]) w := hlk
  have c1 := h.cells.2
  have HB := Lib.hid ((Below.refl w.heap.size w).alloc (Nat.le_refl _) (.cells #[.slice none 0 0, .int .i64 0] 55))
  clear h hlk hf
  go_enter Try.func43, Try.ntmps43
  go_wp2
  go_returns
  exact ⟨rfl, HB.out⟩
set_option maxHeartbeats 2000000 in
set_option maxRecDepth 100000 in
theorem read_some (h : DA bs w p m room l loc) (n : Tx) (f : F) (hn : n.length ≤ 9223372036854775807) (hf : find n l = some f) :
    Calls Try.prog 43 #[dP p, .string (B n)] w fun x w' => x = .returned (.tuple #[.string (B f.data), .int .i64 0]) ∧ Below w.heap.size w w' := by
  obtain ⟨a, c, hfd⟩ := h.found hf
  have hlk := h.look n hn
  rw [hfd.look, hf] at hlk
  have hlk2 : (Instr.lookup 57 (.map (some m)) (.string (B n)) true).run Try.prog w = .ok (.tuple #[.agg #[.slice a f.data.length c, .int .i64 (f.syn : Int)], .bool true]) w := hlk
  have c1 := h.cells.2
  have hb := (Below.refl w.heap.size w).alloc (Nat.le_refl _) (.cells #[.slice a f.data.length c, .int .i64 (f.syn : Int)] 55)
  have kc := conv_owned (own_below hfd.row hb)
  have HB := Lib.hid hb
  clear h hlk hf hfd hb
  go_enter Try.func43, Try.ntmps43
  go_wp2
  go_returns
  exact ⟨rfl, HB.out⟩
theorem field_syn (a : Option Addr) (k c : Nat) (z : Int) (w : World) : (Instr.field 55 (.agg #[.slice a k c, .int .i64 z]) 1).run Try.prog w = .ok (.int .i64 z) w := by kernel_rfl
set_option maxHeartbeats 2000000 in
set_option maxRecDepth 100000 in
theorem sync_none (h : DA bs w p m room l loc) (n : Tx) (hn : n.length ≤ 9223372036854775807) (hf : find n l = none) :
    Calls Try.prog 33 #[dP p, .string (B n)] w fun x w' => x = .returned (.int .i64 6) ∧ Mv bs w p m room l loc l w' := by
  have hlk := h.look n hn
  rw [hf] at hlk
  have hlk2 : (Instr.lookup 57 (.map (some m)) (.string (B n)) true).run Try.prog w = .ok (.tuple #[.agg #[.slice none 0 0, .int .i64 0], .bool false]) w := hlk
  have c1 := h.cells.2
  have HB := Lib.hid (Mv.same h ((Below.refl w.heap.size w).alloc (Nat.le_refl _) (.cells #[.slice none 0 0, .int .i64 0] 55)))
  clear h hlk hf
  go_enter Try.func33, Try.ntmps33
  go_wp2
  go_ret
  exact ⟨rfl, HB.out⟩
/-- A file is put, in a world that has new blocks alone beside the old one. -/
theorem Mv.put {w1 w' : World} (hs : Sorted l) (f : F) (v : Value) (hb : Below w.heap.size w w1) (hd : DA bs w' p m room (put f l) (upd loc f.name v)) (hg : w1.grownBy w' (some m)) (hv : ∀ k, v.ownBlock = some k → SA p m l loc k ∨ w.heap.size ≤ k) : Mv bs w p m room l loc (put f l) w' :=
  ⟨⟨_, hd, grow_put f v hs hv⟩, But.trans (But.of_below hb) (but_grown hg fun k e => by cases e; exact .inr (.inl rfl))⟩
set_option maxHeartbeats 2000000 in
set_option maxRecDepth 100000 in
theorem sync_some (h : DA bs w p m room l loc) (hs : Sorted l) (hl : l.length ≤ 1000) (n : Tx) (f : F) (hn : n.length ≤ 9223372036854775807) (hf : find n l = some f) :
    Calls Try.prog 33 #[dP p, .string (B n)] w fun x w' => x = .returned (.int .i64 0) ∧ Mv bs w p m room l loc (D.put ⟨n, f.data, f.data.length⟩ l) w' := by
  obtain ⟨a, c, hfd⟩ := h.found hf
  have hlk := h.look n hn
  rw [hfd.look, hf] at hlk
  have hlk2 : (Instr.lookup 57 (.map (some m)) (.string (B n)) true).run Try.prog w = .ok (.tuple #[.agg #[.slice a f.data.length c, .int .i64 (f.syn : Int)], .bool true]) w := hlk
  have c1 := h.cells.2
  have HB := Lib.hid ((Below.refl w.heap.size w).alloc (Nat.le_refl _) (.cells #[.slice a f.data.length c, .int .i64 (f.syn : Int)] 55))
  have HD := Lib.hid h
  have HF := Lib.hid hfd
  clear h hlk hf hfd
  go_enter Try.func33, Try.ntmps33
  go_wp2_with fail
  refine (synced_l a f.data.length c _ _).mono ?_
  rintro x w3 ⟨rfl, hb3⟩
  have HB3 := Lib.hid (HB.out.trans (hb3.mono HB.out.size))
  clear hb3 c1 hlk2
  go_wp2_with fail
  refine (put_l ⟨n, f.data, f.data.length⟩ ((HD.out.below HB3.out).dw _) hs hl hn a c (own_below HF.out.row HB3.out) HF.out.apart).mono ?_
  rintro x w4 ⟨rfl, hd4, hg4⟩
  have HM := Lib.hid (Mv.put hs ⟨n, f.data, f.data.length⟩ _ HB3.out hd4 hg4 fun k hk => .inl (HF.out.blk k hk))
  clear hd4 hg4
  go_wp2
  go_ret
  exact ⟨rfl, HM.out⟩
end
end Go.Proofs.Ytmfhipjceeijmaa.D
