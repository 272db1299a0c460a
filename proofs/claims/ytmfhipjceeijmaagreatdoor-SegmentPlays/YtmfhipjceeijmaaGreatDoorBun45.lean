/-
  Own texts, joined: DiskE
-/
import Derived.Test.YtmfhipjceeijmaaGreatDoorBun44
import Derived.Deep.RegionLaw
import Derived.Deep.RegionHeld3
import Derived.Handy

/-
  The landed disk's put: a file is laid into the map.
-/
namespace Go.Proofs.YtmfhipjceeijmaaGreatDoor.D
open Go.RowKit Go.Maps
attribute [local go_sem] ext_Bd ext_Bl ext_Bt toList_B add_B size_B get_Bt

theorem step_mapUpdate {P : Program} {w : World} {ops : Array Oper} {o : Oper} {a : Act} {K : Act → World → Prop} {Q : Exit → Act → World → Prop} {E : Prop} (hgd : o.guard = none) (t : TypeId) (mm kk vv : Operand) (hop : o.op = Op.mapUpdate t mm kk vv)
    {b : Nat} {key val : Value} (hm : a.eval mm = .map (some b)) (hk : a.eval kk = key) (hv : a.eval vv = val) {R : World → Prop} (hrun : ∃ w', (Instr.mapUpdate t (.map (some b)) key val).run P w = .ok () w' ∧ R w') (h : ∀ w', R w' → K (a.put o.dst undef) w') :
    if Region.wanted o (yielded ops a.tmps) = true then Oper.wp P o a w K Q else E := by
  have hw : Region.wanted o (yielded ops a.tmps) = true := by simp [Region.wanted, hgd]
  rw [if_pos hw]
  obtain ⟨w', hr, hR⟩ := hrun
  unfold Oper.wp
  simp [execOp, hop, hm, hk, hv, hr, Result.andThen]
  exact h w' hR
theorem map_some (b : Nat) (w : World) : (binOp .eql 99 (.map (some b)) (.map none)).run Tryz.prog w = .ok (.bool false) w := by kernel_rfl
section
variable {bs : Nat} {w : World} {p m room : Nat} {l : List F} {loc : Tx → Value}
theorem grown_drew {w w' : World} {row : Option Nat} (h : w.grownBy w' row) : w.grownBy w'.drew row := ⟨h.os, h.tape, h.output, h.size, h.block⟩
set_option maxHeartbeats 4000000 in
set_option maxRecDepth 100000 in
theorem put_l (f : F) (h : DW bs w p m room l loc f.name) (hs : Sorted l) (hl : l.length ≤ 1000) (hn : f.name.length ≤ 9223372036854775807) (a : Option Addr) (c : Nat) (hr : w.ownsRow bs 5 1 (.slice a f.data.length c) f.data.length (Lib.byteCells f.data))
    (hap : ∀ g ∈ l, g.name ≠ f.name → ∀ k, (Value.slice a f.data.length c).ownBlock = some k → (loc g.name).ownBlock ≠ some k) :
    Calls Tryz.prog 64 #[dP p, .string (B f.name), .agg #[.slice a f.data.length c, .int .i64 (f.syn : Int)]] w fun x w' => x = .returned (.tuple #[]) ∧ DA bs w' p m room (put f l) (upd loc f.name (.slice a f.data.length c)) ∧ w.grownBy w' (some m) := by
  have hbx : Below w.heap.size w (w.alloc (.cells #[.slice a f.data.length c, .int .i64 (f.syn : Int)] 108)) := (Below.refl _ w).alloc (Nat.le_refl _) _
  have c1 := (h.below hbx).cell
  have HST : Hid (∀ W : World, W.heap = (w.alloc (.cells #[.slice a f.data.length c, .int .i64 (f.syn : Int)] 108)).heap → ∃ w', (Instr.mapUpdate 99 (.map (some m)) (.string (B f.name)) (.agg #[.slice a f.data.length c, .int .i64 (f.syn : Int)])).run Tryz.prog W = .ok () w' ∧ DA bs w' p m room (put f l) (upd loc f.name (.slice a f.data.length c)) ∧ W.grownBy w' (some m)) := Lib.hid fun W hW => by
    have hD : DW bs W p m room l loc f.name := (h.below hbx).ext fun k _ => by rw [hW]
    obtain ⟨w', h1, h2, h3⟩ := hD.store f hs hl hn a c (row_ext (own_below hr hbx) fun k _ => by rw [hW]) hap
    exact ⟨w', h1, h2, h3.grown⟩
  have HG := Lib.hid (grown_below hbx (some m))
  have kq := map_some m
  clear h hr hap hbx
  go_enter Tryz.func64, Tryz.ntmps64
  go_wp2
  obtain ⟨w5, hrun, hda, hgr⟩ := HST.out (w.alloc (.cells #[.slice a f.data.length c, .int .i64 (f.syn : Int)] 108)).drew rfl
  have HD5 := Lib.hid hda
  have HG5 := Lib.hid hgr
  clear hda hgr HST
  go_region
  all_goals
    go_wp2
    go_returns
    exact ⟨rfl, HD5.out, grown_trans HG.out ⟨HG5.out.os, HG5.out.tape, HG5.out.output, HG5.out.size, HG5.out.block⟩⟩
end
end Go.Proofs.YtmfhipjceeijmaaGreatDoor.D
