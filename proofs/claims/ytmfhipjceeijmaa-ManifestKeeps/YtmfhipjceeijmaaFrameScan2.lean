/-
  The walk of Scan of package frame: the caller of the range over a function.
-/
import Derived.Test.YtmfhipjceeijmaaFrameScan
namespace Go.Proofs.Ytmfhipjceeijmaa
open Go.RowKit Go.Shelf
attribute [local go_sem] Oper.semAt_some ext_Bd ext_Bl ext_Bt toList_B add_B size_B get_Bt

/-- An append to a row in newer memory, stored in an older box. -/
theorem appended_new {W w1 : World} {base b0 : Nat} {t e : TypeId} {v v' : Value} {k m : Nat} {xs ys : List Value} {tmp : Obj}
    (hv : Boxed W b0 t v) (hrow : W.ownsRow base e 1 v k xs) (hbase : base ≤ W.heap.size) (hb0 : b0 < base)
    (hown' : w1.ownsRow base e 1 v' m ys) (hgrow : (W.alloc tmp).grownBy w1 v.ownBlock) :
    Boxed w1 b0 t v ∧ Boxed (w1.setCell ⟨b0, 0, none⟩ v') b0 t v' ∧ (w1.setCell ⟨b0, 0, none⟩ v').ownsRow base e 1 v' m ys ∧ KeepsOthers W (w1.setCell ⟨b0, 0, none⟩ v') ∧
      (∀ j, j < base → w1.heap[j]? = W.heap[j]?) ∧ Below b0 W (w1.setCell ⟨b0, 0, none⟩ v') ∧ W.heap.size ≤ (w1.setCell ⟨b0, 0, none⟩ v').heap.size := by
  have hne : some b0 ≠ v.ownBlock := fun e' => by have := (hrow.lt b0 e'.symm).1; omega
  have hne' : some b0 ≠ v'.ownBlock := fun e' => by have := (hown'.lt b0 e'.symm).1; omega
  have hv1 : Boxed w1 b0 t v := (hv.alloc tmp).kept hgrow hne
  have hbw : Below base W w1 := ((Below.refl base W).alloc hbase tmp).grown hgrow (by simp; omega) fun j ej => (hrow.lt j ej).1
  refine ⟨hv1, hv1.set v', hown'.kept (grownBy_setCell' w1 b0 v') (.inr hne'.symm), ?_, fun j hj => hbw.block j hj, (hbw.mono (Nat.le_of_lt hb0)).setCell (p := ⟨b0, 0, none⟩) (Nat.le_refl _) v', ?_⟩
  · refine ((KeepsOthers.alloc W tmp).trans (KeepsOthers.of_grownBy hgrow fun j o ej hj => ?_)).trans (KeepsOthers.setCell _ _ _)
    rcases (hrow.alloc tmp).2 with ⟨rfl, _⟩ | ⟨g, cap, cur, rfl, _, hgb, _⟩
    · simp [Value.ownBlock] at ej
    · obtain rfl : g = j := by simpa [Value.ownBlock] using ej
      rw [hgb] at hj; cases hj; rfl
  · have := hbw.size
    have h2 := (grownBy_setCell' w1 b0 v').size
    omega
theorem own_base {w : World} {a b : Nat} {e : TypeId} {v : Value} {n : Nat} {xs : List Value} (h : w.ownsRow a e 1 v n xs) (hab : b ≤ a) : w.ownsRow b e 1 v n xs := by
  refine ⟨h.1, ?_⟩
  rcases h.2 with hn | ⟨g, cap, cur, hv, hb, rest⟩
  · exact .inl hn
  · exact .inr ⟨g, cap, cur, hv, by omega, rest⟩
theorem own_size {β : Type} (m : Nat) : Own (fun (_ : β) (W : World) => m ≤ W.heap.size) := fun _ _ _ _ hs hg _ => Nat.le_trans hs hg.size
theorem Try.infoStr : (Try.prog.info? 9).map (fun i => (i.zero, i.size, i.bytes)) = some (some (.string ⟨#[]⟩), 1, 16) := by kernel_rfl

set_option maxRecDepth 100000 in
set_option maxHeartbeats 4000000 in
theorem FScan_l (s : List UInt8) (w : World) (hs : s.length ≤ 100000000) :
    Calls Try.prog 48 #[.string (B s)] w fun e w' => ∃ v, e = .returned (.tuple #[v, .int .i64 ((F.scan s).2 : Nat)]) ∧ w'.ownsRow w.heap.size 9 1 v (F.scan s).1.length (strCells (F.scan s).1) ∧ Below w.heap.size w w' := by
  obtain ⟨i0, hi, hz0, hz1, hz2⟩ := info_parts Try.infoStr
  refine (callsIn_wide (n := 5)).1 ?_
  refine callsIn_of_wp_marks Try.func48 rfl trivial ?_ rfl
  simp only [Try.ntmps48, List.size_toArray, List.length_cons, List.length_nil, Nat.reduceAdd, Nat.reduceSub, Array.replicate_succ, Array.replicate_zero, List.push_toArray, List.append_toArray, List.nil_append, List.cons_append]
  gi_wp2_with (refine ⟨trivial, ?_⟩; gi_at_call 62; refine (frames_in _ s _).mono ?_; rintro e w' ⟨rfl, rfl⟩)
  obtain ⟨b0, hb0⟩ : ∃ b0, b0 = w.heap.size := ⟨_, rfl⟩
  have hsz0 := hb0
  obtain ⟨W0, hW0⟩ : ∃ W0, ((w.alloc (.cells #[.slice none 0 0] 63)).alloc (.cells #[.int .i64 0] 3)).alloc (.cells #[.string (B s)] 9) = W0 := ⟨_, rfl⟩
  have hW0s : W0.heap.size = w.heap.size + 3 := by rw [← hW0]; simp
  have bO : Boxed W0 w.heap.size 63 (.slice none 0 0) := by rw [← hW0]; exact ((Boxed.new w _ _).alloc _).alloc _
  have bI : Boxed W0 (w.heap.size + 1) 3 (.int .i64 0) := by
    rw [← hW0]
    have := (Boxed.new (w.alloc (.cells #[.slice none 0 0] 63)) 3 (.int .i64 0)).alloc (.cells #[.string (B s)] 9)
    rwa [World.size_alloc] at this
  have bS : Boxed W0 (w.heap.size + 2) 9 (.string (B s)) := by
    rw [← hW0]
    have := Boxed.new ((w.alloc (.cells #[.slice none 0 0] 63)).alloc (.cells #[.int .i64 0] 3)) 9 (.string (B s))
    rwa [World.size_alloc, World.size_alloc] at this
  have hB0 : Below w.heap.size w W0 := by rw [← hW0]; exact (((Below.refl _ w).alloc (Nat.le_refl _) _).alloc (by simp) _).alloc (by simp; omega) _
  rw [hW0]
  refine wpIn_rangeFunc_ownG rfl (by omega) (gf := 69) (lb := #[.pointer (some ⟨w.heap.size + 2, 0, none⟩)]) rfl trivial (enters_of Try.func69 (by kernel_rfl) rfl)
    (frames_stops 4 (by omega) (w.heap.size + 2) s (by omega) W0 bS) (fun h1 h2 => h2.trans h1) (fun W l o o' hl _ _ _ => World.putObj_heap_other (by omega)) (Below.refl _ _) (fun _ => rfl)
    (fun pre W => (∃ v, Boxed W w.heap.size 63 v ∧ W.ownsRow (w.heap.size + 3) 9 1 v (pays pre).length (strCells (pays pre)) ∧ True) ∧ (Boxed W (w.heap.size + 1) 3 (.int .i64 (lastEnd pre)) ∧ (w.heap.size + 3 ≤ W.heap.size ∧ Below w.heap.size w W)))
    (fun _ _ _ => False)
    (OwnFrom.and (Own.from (holdsRow_own (w.heap.size + 3) w.heap.size 63 9 1 (fun pre => (pays pre).length) (fun pre => strCells (pays pre)) (fun _ _ => True)) _)
      (OwnFrom.and (Own.from (boxed_own (w.heap.size + 1) 3 (fun pre => .int .i64 (lastEnd pre))) _) (OwnFrom.and (Own.from (own_size (w.heap.size + 3)) _) (ownFrom_below (Nat.le_refl _) (by omega)))))
    (fun _ _ _ _ _ hs _ _ => hs)
    ⟨⟨_, bO, World.ownsRow_nil _ _ _ _, trivial⟩, bI, by omega, hB0⟩
    (fun x => { tmps := #[.string (B s), undef, .slice none 0 0, .int .i64 0, .pointer (some ⟨w.heap.size, 0, none⟩), .pointer (some ⟨w.heap.size + 1, 0, none⟩), .string (B x.1), .int .i64 x.2, .string (B s), .func (.func 69) #[] #[.pointer (some ⟨w.heap.size + 2, 0, none⟩)], .string (B x.1), .int .i64 x.2, undef, undef, undef, undef, undef, undef, undef], defers := [] }) ?assign ?body ?done ?stop
  case assign =>
    intro l x W K hK
    gi_wp2
    exact hK
  case body =>
    rintro l pre x W ⟨⟨v, hv, hrow, _⟩, hwh, hge, hB⟩ hlt
    have hpl : (pays pre).length = pre.length := by simp
    have hc := hv.cell
    gi_wp2_with (gi_at_builtin; refine wpListIn_append_own _ rfl _ _ 63 rfl (w.heap.size + 3) 9 i0 (.string ⟨#[]⟩) 1 16 Try.underlying63 hi hz0 hz1 hz2 rfl (by decide) _ _ _ rfl (hrow.alloc _) ⟨W.heap.size, 0, none⟩ 1 1 [.string (B x.1)] rfl rfl (cell_one_new _ _ _) (by simp [Value.oneCell']) (by unfold maxLen; omega) (by omega) (by simp; omega) ?_; intro v' w1 hown' hgrow _; obtain ⟨g', cap', rfl⟩ := ownsRow_succ hown'; obtain ⟨hv1, hv2, hr2, hk2, hblk, hb2, hsz2⟩ := appended_new hv hrow hge (by omega) hown' hgrow; have hc1 := hv1.cell; have hf1 := hv1.frozen; have hwh1 : Boxed w1 (w.heap.size + 1) 3 (.int .i64 (lastEnd pre)) := (hblk _ (by omega)).trans hwh; have hwc := hwh1.cell; have hwf := hwh1.frozen)
    rw [hpl] at hv2 hr2 hk2 hb2 hsz2
    have hne : w.heap.size ≠ w.heap.size + 1 := by omega
    have hv3 := hv2.other hne (.int .i64 x.2)
    have hwh2 := (hwh1.other hne.symm (Value.slice (some ⟨g', 0, none⟩) (pre.length + 1) cap')).set (.int .i64 x.2)
    have hr3 := hr2.kept (grownBy_setCell' _ (w.heap.size + 1) (.int .i64 x.2)) (.inr fun e' => by have := (hr2.lt _ e').1; omega)
    have hat : KeepsAt (w.heap.size + 2) W ((w1.setCell ⟨w.heap.size, 0, none⟩ (Value.slice (some ⟨g', 0, none⟩) (pre.length + 1) cap')).setCell ⟨w.heap.size + 1, 0, none⟩ (.int .i64 x.2)) := by
      unfold KeepsAt
      rw [Below.heap_setCell _ _ _ _ (by simp), Below.heap_setCell _ _ _ _ (by simp), hblk _ (by omega)]
    have hb3 : Below w.heap.size W ((w1.setCell ⟨w.heap.size, 0, none⟩ (Value.slice (some ⟨g', 0, none⟩) (pre.length + 1) cap')).setCell ⟨w.heap.size + 1, 0, none⟩ (.int .i64 x.2)) := hb2.setCell (p := ⟨w.heap.size + 1, 0, none⟩) (by simp) _
    refine ⟨(hk2.trans (KeepsOthers.setCell _ _ _)).from _, hat, ⟨_, hv3, ?_, trivial⟩, ?_, ?_, hB.trans hb3⟩
    · have e1 : (pays (pre ++ [x])).length = pre.length + 1 := by simp
      have e2 : strCells (pays (pre ++ [x])) = strCells (pays pre) ++ [Value.string (B x.1)] := by simp [strCells]
      rw [e1, e2]
      exact hr3
    · rw [lastEnd_snoc]; exact hwh2
    · have := hb3.size; omega
  case done =>
    rintro D ys W hD ⟨hsc, hle⟩ ⟨⟨v, hv, hrow, _⟩, hwh, hge, hB⟩ hK
    have hc := hv.cell
    have hc2 := hwh.cell
    gi_wp2
    gi_region
    gi_wp2
    have hK2 : W.drew.heap[D]? = some (.deferred (some [])) := hK
    refine ⟨by simp, .inl ⟨_, _, rfl, run_takeDeferred hK2, ?_⟩⟩
    refine ⟨_, results_tmp2 rfl _ _ _, v, ?_, ?_, ?_⟩
    · rw [hsc]; rfl
    · rw [hsc]
      exact own_base (ownsRow_putObj hrow.drew _ hK2 rfl) (by omega)
    · exact hB.drew.trans (belowK_b (w := w) (Nat.le_refl _) W.drew D _ _ (by omega) hK2 rfl rfl)
  case stop =>
    rintro D c pre W _ _ h _
    exact h.elim

end Go.Proofs.Ytmfhipjceeijmaa
