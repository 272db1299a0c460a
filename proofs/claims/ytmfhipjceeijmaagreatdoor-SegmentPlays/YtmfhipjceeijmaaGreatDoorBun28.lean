/-
  Own texts, joined: FrameScan FrameScan2
-/
import Derived.Test.YtmfhipjceeijmaaGreatDoorBun13
import Derived.RangeFuncNested
import Derived.RangeFuncBound
import Derived.RangeFuncCalls
import Derived.RangeFuncLeaves
import Derived.RangeFuncBox
import Derived.Shelf.Abstract
import Derived.Shelf.RegionOpen
import Derived.OwnWalkIn
import Derived.TacticsInMore
import Derived.LoopNIn
import Derived.LoopIn
import Derived.Maps.AppendAt

/-
  The walk of Scan of package frame, which goes over frames by a range over a function: the function that frames gives out, its contract, and Scan.
-/
namespace Go.Proofs.YtmfhipjceeijmaaGreatDoor
open Go.RowKit Go.Shelf
attribute [local go_sem] Oper.semAt_some ext_Bd ext_Bl ext_Bt toList_B add_B size_B get_Bt

abbrev It : Type := List UInt8 × Int
abbrev pays (pre : List It) : List (List UInt8) := pre.map Prod.fst
def lastEnd (pre : List It) : Int := (pre.getLast?.map Prod.snd).getD 0
theorem lastEnd_snoc (pre : List It) (x : It) : lastEnd (pre ++ [x]) = x.2 := by simp [lastEnd]

/-- What has been gone over, and what is left. -/
structure Gone (s : List UInt8) (pre : List It) (left : List UInt8) : Prop where
  cut : s = F.frames (pays pre) ++ left
  good : ∀ p ∈ pays pre, F.good p
  last : lastEnd pre = ((F.frames (pays pre)).length : Int)
theorem Gone.start (s : List UInt8) : Gone s [] s := ⟨rfl, by simp, rfl⟩
theorem Gone.step {s : List UInt8} {pre : List It} {left p r : List UInt8} (h : Gone s pre left) (ht : F.take left = .ok p r) : Gone s (pre ++ [(p, (s.length : Int) - (r.length : Int))]) r := by
  obtain ⟨hl, hg⟩ := F.take_inv ht
  have hcut : s = F.frames (pays pre ++ [p]) ++ r := by rw [F.frames_append, F.frames_cons, F.frames_nil, List.append_nil, List.append_assoc, ← hl]; exact h.cut
  refine ⟨by simpa using hcut, ?_, ?_⟩
  · intro q hq
    rw [show pays (pre ++ [(p, (s.length : Int) - (r.length : Int))]) = pays pre ++ [p] by simp, List.mem_append] at hq
    rcases hq with hq | hq
    · exact h.good q hq
    · simp at hq; subst hq; exact hg
  · rw [lastEnd_snoc]
    have e : s.length = (F.frames (pays pre ++ [p])).length + r.length := by
      have := congrArg List.length hcut
      rwa [List.length_append] at this
    rw [show pays (pre ++ [(p, (s.length : Int) - (r.length : Int))]) = pays pre ++ [p] by simp]
    show (s.length : Int) - (r.length : Int) = _
    omega
theorem frames_ge : ∀ (l : List (List UInt8)), l.length ≤ (F.frames l).length
  | [] => by simp
  | q :: r => by
    have := frames_ge r
    rw [F.frames_cons, List.length_append, F.frame_len, List.length_cons]
    omega
theorem Gone.count {s : List UInt8} {pre : List It} {left : List UInt8} (h : Gone s pre left) : pre.length ≤ s.length ∧ left.length ≤ s.length := by
  have h1 := frames_ge (pays pre)
  have h2 := congrArg List.length h.cut
  rw [List.length_append] at h2
  rw [show (pays pre).length = pre.length by simp] at h1
  omega
theorem Gone.done {s : List UInt8} {pre : List It} {left : List UInt8} {e : Nat} (h : Gone s pre left) (ht : F.take left = .bad e) : F.scan s = (pays pre, (F.frames (pays pre)).length) := by
  conv => lhs; rw [h.cut]
  exact F.scan_row ht h.good
def Ends (s : List UInt8) (ys : List It) : Prop := F.scan s = (pays ys, (F.frames (pays ys)).length) ∧ lastEnd ys = ((F.frames (pays ys)).length : Int)

theorem grown_of_below {w w' : World} (h : Below w.heap.size w w') : w.grownBy w' none := ⟨h.os, h.tape, h.output, h.size, fun k hk _ => h.block k hk⟩
theorem boxed_below {w w' : World} {b : Nat} {t : TypeId} {v : Value} (h : Boxed w b t v) (hb : Below w.heap.size w w') : Boxed w' b t v := (hb.block b h.lt).trans h

def strLen : Value → Nat
  | .string b => b.size
  | _ => 0
/-- What a round keeps: the block of the text. -/
def KeepsAt (b : Nat) (W W' : World) : Prop := W'.heap[b]? = W.heap[b]?

set_option maxRecDepth 100000 in
set_option maxHeartbeats 1000000 in
theorem frames_in (n : Nat) (s : List UInt8) (w : World) :
    CallsIn Fence.wide n Tryz.prog 72 #[.string (B s)] w fun e w' => e = .returned (.func (.func 101) #[] #[.pointer (some ⟨w.heap.size, 0, none⟩)]) ∧ w' = w.alloc (.cells #[.string (B s)] 9) := by
  refine callsIn_of_wp Tryz.func72 rfl trivial ?_ rfl
  simp only [Tryz.ntmps72, List.size_toArray, List.length_cons, List.length_nil, Nat.reduceAdd, Nat.reduceSub, Array.replicate_succ, Array.replicate_zero, List.push_toArray, List.append_toArray, List.nil_append, List.cons_append]
  gi_wp2
  go_ret
  exact ⟨rfl, rfl⟩

set_option maxRecDepth 100000 in
set_option maxHeartbeats 2000000 in
theorem frames1_in (n : Nat) (hn : 1 ≤ n) (l Bn : Nat) (s : List UInt8) (hs : s.length ≤ 100000000) (J Jx : List It → World → Prop)
    (hJ : ∀ pre W W', J pre W → W.grownBy W' none → J pre W')
    (hY : ∀ pre x W, J pre W → pre.length < s.length → YieldAt Fence.wide (n - 1) Tryz.prog l #[.string (B x.1), .int .i64 x.2] W fun e W' =>
      (e = .returned (.bool true) ∧ J (pre ++ [x]) W' ∧ KeepsAt Bn W W') ∨ (e = .returned (.bool false) ∧ Jx (pre ++ [x]) W'))
    (W : World) (hBn : Boxed W Bn 9 (.string (B s))) (h0 : J [] W) :
    CallsIn Fence.wide n Tryz.prog 101 #[.func (.yield l) #[] #[], .pointer (some ⟨Bn, 0, none⟩)] W fun e W' => (∃ v, e = .returned v) ∧
      ((∃ ys, Ends s ys ∧ J ys W') ∨ (∃ pre, True ∧ Jx pre W')) := by
  refine callsIn_of_wp Tryz.func101 rfl trivial ?_ rfl
  simp only [Tryz.ntmps101, List.size_toArray, List.length_cons, List.length_nil, Nat.reduceAdd, Nat.reduceSub, Array.replicate_succ, Array.replicate_zero, List.push_toArray, List.append_toArray, List.nil_append, List.cons_append]
  have hc0 := hBn.cell
  gi_wp2
  gi_loopw [3] (fun p wr => ∃ (pre : List It) (left : List UInt8), p = .string (B left) ∧ Gone s pre left ∧ Boxed wr Bn 9 (.string (B s)) ∧ J pre wr)
    (fun p _ => strLen p)
  case atStart =>
    exact ⟨[], s, rfl, Gone.start s, hBn, h0⟩
  case round =>
    obtain ⟨pre, left, rfl, hg, hb, hJs⟩ := hrel
    have hcnt := hg.count
    rcases F.take_cases left with ⟨e, ht, he⟩ | ⟨p, r, ht⟩
    · have hne : ((e : Int) == 0) = false := beq_eq_false_iff_ne.2 (by omega)
      have HD : Hid (Ends s pre) := Lib.hid ⟨hg.done ht, hg.last⟩
      have HT := Lib.hid (show ftRes (F.take left) = .tuple #[.string (B []), .string (B []), .int .i64 e] by rw [ht]; exact ftRes_bad e)
      clear ht hg
      gi_wp2_with (refine ⟨trivial, ?_⟩; gi_at_call 102; refine (callsIn_wide.2 (FTake_at left _ wr (by omega) HT)).mono ?_; rintro e1 w1 ⟨rfl, hb1⟩)
      refine ⟨fun _ h => (by cases h), ?_⟩
      gi_wp2
      refine bodyPost_ret (results_none rfl _ _ _) rfl ?_
      exact ⟨⟨_, rfl⟩, .inl ⟨pre, HD.out, hJ _ _ _ hJs (grown_of_below hb1)⟩⟩
    · have HS := Lib.hid (hg.step ht)
      have hlr : left.length = p.length + 8 + r.length := by
        have := congrArg List.length (F.take_inv ht).1
        rwa [List.length_append, F.frame_len] at this
      have hpl : pre.length < s.length := by
        have := HS.out.count.1
        rw [List.length_append] at this
        simp at this
        omega
      have HT := Lib.hid (show ftRes (F.take left) = .tuple #[.string (B p), .string (B r), .int .i64 0] by rw [ht]; exact ftRes_ok p r)
      clear ht hg
      gi_wp2_with (refine ⟨trivial, ?_⟩; gi_at_call 102; refine (callsIn_wide.2 (FTake_at left _ wr (by omega) HT)).mono ?_; rintro e1 w1 ⟨rfl, hb1⟩; have hbx := boxed_below hb hb1; have hcx := hbx.cell; obtain ⟨fn, tmps, assign, body, hy, hR⟩ := hY pre (p, (s.length : Int) - (r.length : Int)) w1 (hJ _ _ _ hJs (grown_of_below hb1)) hpl; dsimp only at hy)
      refine hR.mono ?_
      rintro e W3 (⟨rfl, hJ3, hk3⟩ | ⟨rfl, hJx3⟩)
      · have hb3 : Boxed W3 Bn 9 (.string (B s)) := hk3.trans hbx
        gi_wp2
        go_roundw
        case rel => exact ⟨_, r, rfl, HS.out, hb3, hJ3⟩
        case measure => simp [strLen, size_B]; omega
      · gi_wp2
        refine bodyPost_ret (results_none rfl _ _ _) rfl ?_
        exact ⟨⟨_, rfl⟩, .inr ⟨_, trivial, hJx3⟩⟩
theorem frames_stops (n : Nat) (hn : 1 ≤ n) (Bn : Nat) (s : List UInt8) (hs : s.length ≤ 100000000) (w : World) (hBn : Boxed w Bn 9 (.string (B s))) :
    SeqStopsK Fence.wide n Tryz.prog 101 #[.pointer (some ⟨Bn, 0, none⟩)] (fun x : It => #[.string (B x.1), .int .i64 x.2]) (KeepsAt Bn) (Ends s) (fun _ => True) s.length w := fun l J Jx W hW hJ _ hY h0 =>
  frames1_in n hn l Bn s hs J Jx (fun pre W W' h hg => hJ pre W W' none h hg (fun r e => by cases e)) hY W (boxed_below hBn hW) h0

end Go.Proofs.YtmfhipjceeijmaaGreatDoor

/-
  The walk of Scan of package frame: the caller of the range over a function.
-/
namespace Go.Proofs.YtmfhipjceeijmaaGreatDoor
open Go.RowKit Go.Shelf
attribute [local go_sem] Oper.semAt_some ext_Bd ext_Bl ext_Bt toList_B add_B size_B get_Bt

/-- An append to a row in newer memory, stored in an older box. -/
theorem appended_new {W w1 : World} {base b0 : Nat} {t e : TypeId} {v v' : Value} {k m : Nat} {xs ys : List Value} {tmp : Obj}
    (hv : Boxed W b0 t v) (hrow : W.ownsRow base e 1 v k xs) (hbase : base ≤ W.heap.size) (hb0 : b0 < base)
    (hown' : w1.ownsRow base e 1 v' m ys) (hgrow : (W.alloc tmp).grownBy w1 v.ownBlock) :
    Boxed w1 b0 t v ∧ Boxed (w1.setCell ⟨b0, 0, none⟩ v') b0 t v' ∧ (w1.setCell ⟨b0, 0, none⟩ v').ownsRow base e 1 v' m ys ∧ KeepsOthers W (w1.setCell ⟨b0, 0, none⟩ v') ∧
      (∀ j, j < base → w1.heap[j]? = W.heap[j]?) ∧ Below b0 W (w1.setCell ⟨b0, 0, none⟩ v') ∧ W.heap.size ≤ (w1.setCell ⟨b0, 0, none⟩ v').heap.size := by
  have hne : some b0 ≠ v.ownBlock := fun e' => by have := (hrow.lt b0 e'.symm).1; omega
  have hne' : some b0 ≠ v'.ownBlock := fun e' => by have := (hown'.lt b0 e'.symm).1; omega
  have hv1 : Boxed w1 b0 t v := (hv.alloc tmp).kept hgrow hne
  have hbw : Below base W w1 := ((Below.refl base W).alloc hbase tmp).grown hgrow (by simp; omega) fun j ej => (hrow.lt j ej).1
  refine ⟨hv1, hv1.set v', hown'.kept (grownBy_setCell' w1 b0 v') (.inr hne'.symm), ?_, fun j hj => hbw.block j hj, (hbw.mono (Nat.le_of_lt hb0)).setCell (p := ⟨b0, 0, none⟩) (Nat.le_refl _) v', ?_⟩
  · refine ((KeepsOthers.alloc W tmp).trans (KeepsOthers.of_grownBy hgrow fun j o ej hj => ?_)).trans (KeepsOthers.setCell _ _ _)
    rcases (hrow.alloc tmp).2 with ⟨rfl, _⟩ | ⟨g, cap, cur, rfl, _, hgb, _⟩
    · simp [Value.ownBlock] at ej
    · obtain rfl : g = j := by simpa [Value.ownBlock] using ej
      rw [hgb] at hj; cases hj; rfl
  · have := hbw.size
    have h2 := (grownBy_setCell' w1 b0 v').size
    omega
theorem own_base {w : World} {a b : Nat} {e : TypeId} {v : Value} {n : Nat} {xs : List Value} (h : w.ownsRow a e 1 v n xs) (hab : b ≤ a) : w.ownsRow b e 1 v n xs := by
  refine ⟨h.1, ?_⟩
  rcases h.2 with hn | ⟨g, cap, cur, hv, hb, rest⟩
  · exact .inl hn
  · exact .inr ⟨g, cap, cur, hv, by omega, rest⟩
theorem own_size {β : Type} (m : Nat) : Own (fun (_ : β) (W : World) => m ≤ W.heap.size) := fun _ _ _ _ hs hg _ => Nat.le_trans hs hg.size
theorem Tryz.infoStr : (Tryz.prog.info? 9).map (fun i => (i.zero, i.size, i.bytes)) = some (some (.string ⟨#[]⟩), 1, 16) := by kernel_rfl

set_option maxRecDepth 100000 in
set_option maxHeartbeats 4000000 in
theorem FScan_l (s : List UInt8) (w : World) (hs : s.length ≤ 100000000) :
    Calls Tryz.prog 40 #[.string (B s)] w fun e w' => ∃ v, e = .returned (.tuple #[v, .int .i64 ((F.scan s).2 : Nat)]) ∧ w'.ownsRow w.heap.size 9 1 v (F.scan s).1.length (strCells (F.scan s).1) ∧ Below w.heap.size w w' := by
  obtain ⟨i0, hi, hz0, hz1, hz2⟩ := info_parts Tryz.infoStr
  refine (callsIn_wide (n := 5)).1 ?_
  refine callsIn_of_wp_marks Tryz.func40 rfl trivial ?_ rfl
  simp only [Tryz.ntmps40, List.size_toArray, List.length_cons, List.length_nil, Nat.reduceAdd, Nat.reduceSub, Array.replicate_succ, Array.replicate_zero, List.push_toArray, List.append_toArray, List.nil_append, List.cons_append]
  gi_wp2_with (refine ⟨trivial, ?_⟩; gi_at_call 72; refine (frames_in _ s _).mono ?_; rintro e w' ⟨rfl, rfl⟩)
  obtain ⟨b0, hb0⟩ : ∃ b0, b0 = w.heap.size := ⟨_, rfl⟩
  have hsz0 := hb0
  obtain ⟨W0, hW0⟩ : ∃ W0, ((w.alloc (.cells #[.slice none 0 0] 67)).alloc (.cells #[.int .i64 0] 3)).alloc (.cells #[.string (B s)] 9) = W0 := ⟨_, rfl⟩
  have hW0s : W0.heap.size = w.heap.size + 3 := by rw [← hW0]; simp
  have bO : Boxed W0 w.heap.size 67 (.slice none 0 0) := by rw [← hW0]; exact ((Boxed.new w _ _).alloc _).alloc _
  have bI : Boxed W0 (w.heap.size + 1) 3 (.int .i64 0) := by
    rw [← hW0]
    have := (Boxed.new (w.alloc (.cells #[.slice none 0 0] 67)) 3 (.int .i64 0)).alloc (.cells #[.string (B s)] 9)
    rwa [World.size_alloc] at this
  have bS : Boxed W0 (w.heap.size + 2) 9 (.string (B s)) := by
    rw [← hW0]
    have := Boxed.new ((w.alloc (.cells #[.slice none 0 0] 67)).alloc (.cells #[.int .i64 0] 3)) 9 (.string (B s))
    rwa [World.size_alloc, World.size_alloc] at this
  have hB0 : Below w.heap.size w W0 := by rw [← hW0]; exact (((Below.refl _ w).alloc (Nat.le_refl _) _).alloc (by simp) _).alloc (by simp; omega) _
  rw [hW0]
  refine wpIn_rangeFunc_ownG rfl (by omega) (gf := 101) (lb := #[.pointer (some ⟨w.heap.size + 2, 0, none⟩)]) rfl trivial (enters_of Tryz.func101 (by kernel_rfl) rfl)
    (frames_stops 4 (by omega) (w.heap.size + 2) s (by omega) W0 bS) (fun h1 h2 => h2.trans h1) (fun W l o o' hl _ _ _ => World.putObj_heap_other (by omega)) (Below.refl _ _) (fun _ => rfl)
    (fun pre W => (∃ v, Boxed W w.heap.size 67 v ∧ W.ownsRow (w.heap.size + 3) 9 1 v (pays pre).length (strCells (pays pre)) ∧ True) ∧ (Boxed W (w.heap.size + 1) 3 (.int .i64 (lastEnd pre)) ∧ (w.heap.size + 3 ≤ W.heap.size ∧ Below w.heap.size w W)))
    (fun _ _ _ => False)
    (OwnFrom.and (Own.from (holdsRow_own (w.heap.size + 3) w.heap.size 67 9 1 (fun pre => (pays pre).length) (fun pre => strCells (pays pre)) (fun _ _ => True)) _)
      (OwnFrom.and (Own.from (boxed_own (w.heap.size + 1) 3 (fun pre => .int .i64 (lastEnd pre))) _) (OwnFrom.and (Own.from (own_size (w.heap.size + 3)) _) (ownFrom_below (Nat.le_refl _) (by omega)))))
    (fun _ _ _ _ _ hs _ _ => hs)
    ⟨⟨_, bO, World.ownsRow_nil _ _ _ _, trivial⟩, bI, by omega, hB0⟩
    (fun x => { tmps := #[.string (B s), undef, .slice none 0 0, .int .i64 0, .pointer (some ⟨w.heap.size, 0, none⟩), .pointer (some ⟨w.heap.size + 1, 0, none⟩), .string (B x.1), .int .i64 x.2, .string (B s), .func (.func 101) #[] #[.pointer (some ⟨w.heap.size + 2, 0, none⟩)], .string (B x.1), .int .i64 x.2, undef, undef, undef, undef, undef, undef, undef], defers := [] }) ?assign ?body ?done ?stop
  case assign =>
    intro l x W K hK
    gi_wp2
    exact hK
  case body =>
    rintro l pre x W ⟨⟨v, hv, hrow, _⟩, hwh, hge, hB⟩ hlt
    have hpl : (pays pre).length = pre.length := by simp
    have hc := hv.cell
    gi_wp2_with (gi_at_builtin; refine wpListIn_append_own _ rfl _ _ 67 rfl (w.heap.size + 3) 9 i0 (.string ⟨#[]⟩) 1 16 Tryz.underlying67 hi hz0 hz1 hz2 rfl (by decide) _ _ _ rfl (hrow.alloc _) ⟨W.heap.size, 0, none⟩ 1 1 [.string (B x.1)] rfl rfl (cell_one_new _ _ _) (by simp [Value.oneCell']) (by unfold maxLen; omega) (by omega) (by simp; omega) ?_; intro v' w1 hown' hgrow _; obtain ⟨g', cap', rfl⟩ := ownsRow_succ hown'; obtain ⟨hv1, hv2, hr2, hk2, hblk, hb2, hsz2⟩ := appended_new hv hrow hge (by omega) hown' hgrow; have hc1 := hv1.cell; have hf1 := hv1.frozen; have hwh1 : Boxed w1 (w.heap.size + 1) 3 (.int .i64 (lastEnd pre)) := (hblk _ (by omega)).trans hwh; have hwc := hwh1.cell; have hwf := hwh1.frozen)
    rw [hpl] at hv2 hr2 hk2 hb2 hsz2
    have hne : w.heap.size ≠ w.heap.size + 1 := by omega
    have hv3 := hv2.other hne (.int .i64 x.2)
    have hwh2 := (hwh1.other hne.symm (Value.slice (some ⟨g', 0, none⟩) (pre.length + 1) cap')).set (.int .i64 x.2)
    have hr3 := hr2.kept (grownBy_setCell' _ (w.heap.size + 1) (.int .i64 x.2)) (.inr fun e' => by have := (hr2.lt _ e').1; omega)
    have hat : KeepsAt (w.heap.size + 2) W ((w1.setCell ⟨w.heap.size, 0, none⟩ (Value.slice (some ⟨g', 0, none⟩) (pre.length + 1) cap')).setCell ⟨w.heap.size + 1, 0, none⟩ (.int .i64 x.2)) := by
      unfold KeepsAt
      rw [Below.heap_setCell _ _ _ _ (by simp), Below.heap_setCell _ _ _ _ (by simp), hblk _ (by omega)]
    have hb3 : Below w.heap.size W ((w1.setCell ⟨w.heap.size, 0, none⟩ (Value.slice (some ⟨g', 0, none⟩) (pre.length + 1) cap')).setCell ⟨w.heap.size + 1, 0, none⟩ (.int .i64 x.2)) := hb2.setCell (p := ⟨w.heap.size + 1, 0, none⟩) (by simp) _
    refine ⟨(hk2.trans (KeepsOthers.setCell _ _ _)).from _, hat, ⟨_, hv3, ?_, trivial⟩, ?_, ?_, hB.trans hb3⟩
    · have e1 : (pays (pre ++ [x])).length = pre.length + 1 := by simp
      have e2 : strCells (pays (pre ++ [x])) = strCells (pays pre) ++ [Value.string (B x.1)] := by simp [strCells]
      rw [e1, e2]
      exact hr3
    · rw [lastEnd_snoc]; exact hwh2
    · have := hb3.size; omega
  case done =>
    rintro D ys W hD ⟨hsc, hle⟩ ⟨⟨v, hv, hrow, _⟩, hwh, hge, hB⟩ hK
    have hc := hv.cell
    have hc2 := hwh.cell
    gi_wp2
    gi_region
    gi_wp2
    have hK2 : W.drew.heap[D]? = some (.deferred (some [])) := hK
    refine ⟨by simp, .inl ⟨_, _, rfl, run_takeDeferred hK2, ?_⟩⟩
    refine ⟨_, results_tmp2 rfl _ _ _, v, ?_, ?_, ?_⟩
    · rw [hsc]; rfl
    · rw [hsc]
      exact own_base (ownsRow_putObj hrow.drew _ hK2 rfl) (by omega)
    · exact hB.drew.trans (belowK_b (w := w) (Nat.le_refl _) W.drew D _ _ (by omega) hK2 rfl rfl)
  case stop =>
    rintro D c pre W _ _ h _
    exact h.elim

end Go.Proofs.YtmfhipjceeijmaaGreatDoor
