/-
  The walk of Scan of package frame, which goes over frames by a range over a function: the function that frames gives out, its contract, and Scan.
-/
import Derived.Test.YtmfhipjceeijmaaFrameProg
import Derived.RangeFuncNested
import Derived.RangeFuncBound
import Derived.RangeFuncCalls
import Derived.RangeFuncLeaves
import Derived.RangeFuncBox
import Derived.Shelf.Abstract
import Derived.Shelf.RegionOpen
import Derived.OwnWalkIn
import Derived.TacticsInMore
import Derived.LoopNIn
import Derived.LoopIn
import Derived.Maps.AppendAt
namespace Go.Proofs.Ytmfhipjceeijmaa
open Go.RowKit Go.Shelf
attribute [local go_sem] Oper.semAt_some ext_Bd ext_Bl ext_Bt toList_B add_B size_B get_Bt

abbrev It : Type := List UInt8 × Int
abbrev pays (pre : List It) : List (List UInt8) := pre.map Prod.fst
def lastEnd (pre : List It) : Int := (pre.getLast?.map Prod.snd).getD 0
theorem lastEnd_snoc (pre : List It) (x : It) : lastEnd (pre ++ [x]) = x.2 := by simp [lastEnd]

/-- What has been gone over, and what is left. -/
structure Gone (s : List UInt8) (pre : List It) (left : List UInt8) : Prop where
  cut : s = F.frames (pays pre) ++ left
  good : ∀ p ∈ pays pre, F.good p
  last : lastEnd pre = ((F.frames (pays pre)).length : Int)
theorem Gone.start (s : List UInt8) : Gone s [] s := ⟨rfl, by simp, rfl⟩
theorem Gone.step {s : List UInt8} {pre : List It} {left p r : List UInt8} (h : Gone s pre left) (ht : F.take left = .ok p r) : Gone s (pre ++ [(p, (s.length : Int) - (r.length : Int))]) r := by
  obtain ⟨hl, hg⟩ := F.take_inv ht
  have hcut : s = F.frames (pays pre ++ [p]) ++ r := by rw [F.frames_append, F.frames_cons, F.frames_nil, List.append_nil, List.append_assoc, ← hl]; exact h.cut
  refine ⟨by simpa using hcut, ?_, ?_⟩
  · intro q hq
    rw [show pays (pre ++ [(p, (s.length : Int) - (r.length : Int))]) = pays pre ++ [p] by simp, List.mem_append] at hq
    rcases hq with hq | hq
    · exact h.good q hq
    · simp at hq; subst hq; exact hg
  · rw [lastEnd_snoc]
    have e : s.length = (F.frames (pays pre ++ [p])).length + r.length := by
      have := congrArg List.length hcut
      rwa [List.length_append] at this
    rw [show pays (pre ++ [(p, (s.length : Int) - (r.length : Int))]) = pays pre ++ [p] by simp]
    show (s.length : Int) - (r.length : Int) = _
    omega
theorem frames_ge : ∀ (l : List (List UInt8)), l.length ≤ (F.frames l).length
  | [] => by simp
  | q :: r => by
    have := frames_ge r
    rw [F.frames_cons, List.length_append, F.frame_len, List.length_cons]
    omega
theorem Gone.count {s : List UInt8} {pre : List It} {left : List UInt8} (h : Gone s pre left) : pre.length ≤ s.length ∧ left.length ≤ s.length := by
  have h1 := frames_ge (pays pre)
  have h2 := congrArg List.length h.cut
  rw [List.length_append] at h2
  rw [show (pays pre).length = pre.length by simp] at h1
  omega
theorem Gone.done {s : List UInt8} {pre : List It} {left : List UInt8} {e : Nat} (h : Gone s pre left) (ht : F.take left = .bad e) : F.scan s = (pays pre, (F.frames (pays pre)).length) := by
  conv => lhs; rw [h.cut]
  exact F.scan_row ht h.good
def Ends (s : List UInt8) (ys : List It) : Prop := F.scan s = (pays ys, (F.frames (pays ys)).length) ∧ lastEnd ys = ((F.frames (pays ys)).length : Int)

theorem grown_of_below {w w' : World} (h : Below w.heap.size w w') : w.grownBy w' none := ⟨h.os, h.tape, h.output, h.size, fun k hk _ => h.block k hk⟩
theorem boxed_below {w w' : World} {b : Nat} {t : TypeId} {v : Value} (h : Boxed w b t v) (hb : Below w.heap.size w w') : Boxed w' b t v := (hb.block b h.lt).trans h

def strLen : Value → Nat
  | .string b => b.size
  | _ => 0
/-- What a round keeps: the block of the text. -/
def KeepsAt (b : Nat) (W W' : World) : Prop := W'.heap[b]? = W.heap[b]?

set_option maxRecDepth 100000 in
set_option maxHeartbeats 1000000 in
theorem frames_in (n : Nat) (s : List UInt8) (w : World) :
    CallsIn Fence.wide n Try.prog 62 #[.string (B s)] w fun e w' => e = .returned (.func (.func 69) #[] #[.pointer (some ⟨w.heap.size, 0, none⟩)]) ∧ w' = w.alloc (.cells #[.string (B s)] 9) := by
  refine callsIn_of_wp Try.func62 rfl trivial ?_ rfl
  simp only [Try.ntmps62, List.size_toArray, List.length_cons, List.length_nil, Nat.reduceAdd, Nat.reduceSub, Array.replicate_succ, Array.replicate_zero, List.push_toArray, List.append_toArray, List.nil_append, List.cons_append]
  gi_wp2
  go_ret
  exact ⟨rfl, rfl⟩

set_option maxRecDepth 100000 in
set_option maxHeartbeats 2000000 in
theorem frames1_in (n : Nat) (hn : 1 ≤ n) (l Bn : Nat) (s : List UInt8) (hs : s.length ≤ 100000000) (J Jx : List It → World → Prop)
    (hJ : ∀ pre W W', J pre W → W.grownBy W' none → J pre W')
    (hY : ∀ pre x W, J pre W → pre.length < s.length → YieldAt Fence.wide (n - 1) Try.prog l #[.string (B x.1), .int .i64 x.2] W fun e W' =>
      (e = .returned (.bool true) ∧ J (pre ++ [x]) W' ∧ KeepsAt Bn W W') ∨ (e = .returned (.bool false) ∧ Jx (pre ++ [x]) W'))
    (W : World) (hBn : Boxed W Bn 9 (.string (B s))) (h0 : J [] W) :
    CallsIn Fence.wide n Try.prog 69 #[.func (.yield l) #[] #[], .pointer (some ⟨Bn, 0, none⟩)] W fun e W' => (∃ v, e = .returned v) ∧
      ((∃ ys, Ends s ys ∧ J ys W') ∨ (∃ pre, True ∧ Jx pre W')) := by
  refine callsIn_of_wp Try.func69 rfl trivial ?_ rfl
  simp only [Try.ntmps69, List.size_toArray, List.length_cons, List.length_nil, Nat.reduceAdd, Nat.reduceSub, Array.replicate_succ, Array.replicate_zero, List.push_toArray, List.append_toArray, List.nil_append, List.cons_append]
  have hc0 := hBn.cell
  gi_wp2
  gi_loopw [3] (fun p wr => ∃ (pre : List It) (left : List UInt8), p = .string (B left) ∧ Gone s pre left ∧ Boxed wr Bn 9 (.string (B s)) ∧ J pre wr)
    (fun p _ => strLen p)
  case atStart =>
    exact ⟨[], s, rfl, Gone.start s, hBn, h0⟩
  case round =>
    obtain ⟨pre, left, rfl, hg, hb, hJs⟩ := hrel
    have hcnt := hg.count
    rcases F.take_cases left with ⟨e, ht, he⟩ | ⟨p, r, ht⟩
    · have hne : ((e : Int) == 0) = false := beq_eq_false_iff_ne.2 (by omega)
      have HD : Hid (Ends s pre) := Lib.hid ⟨hg.done ht, hg.last⟩
      have HT := Lib.hid (show ftRes (F.take left) = .tuple #[.string (B []), .string (B []), .int .i64 e] by rw [ht]; exact ftRes_bad e)
      clear ht hg
      gi_wp2_with (refine ⟨trivial, ?_⟩; gi_at_call 28; refine (callsIn_wide.2 (FTake_at left _ wr (by omega) HT)).mono ?_; rintro e1 w1 ⟨rfl, hb1⟩)
      refine ⟨fun _ h => (by cases h), ?_⟩
      gi_wp2
      refine bodyPost_ret (results_none rfl _ _ _) rfl ?_
      exact ⟨⟨_, rfl⟩, .inl ⟨pre, HD.out, hJ _ _ _ hJs (grown_of_below hb1)⟩⟩
    · have HS := Lib.hid (hg.step ht)
      have hlr : left.length = p.length + 8 + r.length := by
        have := congrArg List.length (F.take_inv ht).1
        rwa [List.length_append, F.frame_len] at this
      have hpl : pre.length < s.length := by
        have := HS.out.count.1
        rw [List.length_append] at this
        simp at this
        omega
      have HT := Lib.hid (show ftRes (F.take left) = .tuple #[.string (B p), .string (B r), .int .i64 0] by rw [ht]; exact ftRes_ok p r)
      clear ht hg
      gi_wp2_with (refine ⟨trivial, ?_⟩; gi_at_call 28; refine (callsIn_wide.2 (FTake_at left _ wr (by omega) HT)).mono ?_; rintro e1 w1 ⟨rfl, hb1⟩; have hbx := boxed_below hb hb1; have hcx := hbx.cell; obtain ⟨fn, tmps, assign, body, hy, hR⟩ := hY pre (p, (s.length : Int) - (r.length : Int)) w1 (hJ _ _ _ hJs (grown_of_below hb1)) hpl; dsimp only at hy)
      refine hR.mono ?_
      rintro e W3 (⟨rfl, hJ3, hk3⟩ | ⟨rfl, hJx3⟩)
      · have hb3 : Boxed W3 Bn 9 (.string (B s)) := hk3.trans hbx
        gi_wp2
        go_roundw
        case rel => exact ⟨_, r, rfl, HS.out, hb3, hJ3⟩
        case measure => simp [strLen, size_B]; omega
      · gi_wp2
        refine bodyPost_ret (results_none rfl _ _ _) rfl ?_
        exact ⟨⟨_, rfl⟩, .inr ⟨_, trivial, hJx3⟩⟩
theorem frames_stops (n : Nat) (hn : 1 ≤ n) (Bn : Nat) (s : List UInt8) (hs : s.length ≤ 100000000) (w : World) (hBn : Boxed w Bn 9 (.string (B s))) :
    SeqStopsK Fence.wide n Try.prog 69 #[.pointer (some ⟨Bn, 0, none⟩)] (fun x : It => #[.string (B x.1), .int .i64 x.2]) (KeepsAt Bn) (Ends s) (fun _ => True) s.length w := fun l J Jx W hW hJ _ hY h0 =>
  frames1_in n hn l Bn s hs J Jx (fun pre W W' h hg => hJ pre W W' none h hg (fun r e => by cases e)) hY W (boxed_below hBn hW) h0

end Go.Proofs.Ytmfhipjceeijmaa
