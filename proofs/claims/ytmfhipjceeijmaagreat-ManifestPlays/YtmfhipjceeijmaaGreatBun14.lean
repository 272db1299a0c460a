/-
  Own texts, joined: ManCode1
-/
import Derived.Test.YtmfhipjceeijmaaGreatBun6
import Derived.Test.YtmfhipjceeijmaaGreatBun10
import Derived.Test.YtmfhipjceeijmaaGreatBun9
import Derived.Deep.RegionHeld3
import Derived.Deep.DeepCutAuto
import Derived.OneCell

/-
  The manifest package: between, Right, the two functions that read numbers, payloadOf.
-/
namespace Go.Proofs.YtmfhipjceeijmaaGreat.A
open Go.RowKit
open D (Tx ReadsI i64B readsI_below dP)
attribute [local go_sem] ext_Bd ext_Bl ext_Bt toList_B add_B size_B get_Bt

theorem blkA {w : World} {h : Nat} {cs : Array Value} {t : TypeId} (ho : w.heap[h]? = some (.cells cs t (0, 0))) (j : Nat) : w.cell? ⟨h, j, none⟩ = cs[j]? := by simp [World.cell?, ho]
theorem frzA {w : World} {h : Nat} {cs : Array Value} {t : TypeId} (ho : w.heap[h]? = some (.cells cs t (0, 0))) (j : Nat) : w.frozen? ⟨h, j, none⟩ = false := by simp [World.frozen?, ho]
theorem setA {w : World} {g : Nat} {cs : Array Value} {t : TypeId} (h : w.heap[g]? = some (.cells cs t (0, 0))) (j : Nat) (u : Value) : (w.setCell ⟨g, j, none⟩ u).heap[g]? = some (.cells (cs.setIfInBounds j u) t (0, 0)) := by
  obtain ⟨hlt, hk⟩ := Array.getElem?_eq_some_iff.1 h
  show (w.heap.modify g _)[g]? = _
  rw [Array.getElem?_eq_getElem (by rw [Array.size_modify]; exact hlt), Array.getElem_modify_self, hk]
  rfl
theorem keepsA {w w' : World} (hb : Below w.heap.size w w') (p : Addr) (u : Value) (h : w.cell? p = some u) : w'.cell? p = some u := D.keeps hb p u h
theorem cellA {S : Nat → Prop} {w w' : World} {a : Addr} {u : Value} (h : w.cell? a = some u) (hb : D.But S w w') (hs : ¬ S a.block) : w'.cell? a = some u := by
  have hlt := World.block_lt_of_cell? w a h
  rw [World.cell?_of_block (w := w) (hb.block _ hlt hs)]
  exact h

theorem between_l (n lo hi : Int) (b : Bool) (w : World) (H : Hid (decide (lo ≤ n ∧ n ≤ hi) = b)) :
    Calls Tryz.prog 44 #[.int .i64 n, .int .i64 lo, .int .i64 hi] w fun x w' => x = .returned (.bool b) ∧ w' = w := by
  by_cases h1 : lo ≤ n
  · by_cases h2 : n ≤ hi
    · have HB : Hid (b = true) := Lib.hid (by rw [← H.out]; simp [h1, h2])
      clear H
      go_enter Tryz.func44, Tryz.ntmps44
      go_wp2
      go_ret
      rw [HB.out]
      exact ⟨by simp, rfl⟩
    · have HB : Hid (b = false) := Lib.hid (by rw [← H.out]; simp [h2])
      clear H
      go_enter Tryz.func44, Tryz.ntmps44
      go_wp2
      go_ret
      rw [HB.out]
      exact ⟨by simp, rfl⟩
  · have HB : Hid (b = false) := Lib.hid (by rw [← H.out]; simp [h1])
    clear H
    go_enter Tryz.func44, Tryz.ntmps44
    go_wp2
    go_ret
    rw [HB.out]
    exact ⟨rfl, rfl⟩

theorem rises_at {l : List Int} {k : Nat} (h : k < l.length) (z next : Int) : rises z next (l.drop k) = (decide (z < l[k] ∧ l[k] < next) && rises l[k] next (l.drop (k + 1))) := by
  rw [List.drop_eq_getElem_cons h]
  rfl
set_option maxHeartbeats 2000000 in
set_option maxRecDepth 100000 in
theorem Right_l (next : Int) (segs : List Int) (v : Value) (w : World) (b : Bool) (hv : ReadsI w v segs) (H : Hid (right next segs = b)) :
    Calls Tryz.prog 15 #[.agg #[.int .i64 next, v]] w fun x w' => x = .returned (.bool b) ∧ Below w.heap.size w w' := by
  obtain ⟨a, cap, rfl, hx⟩ := hv
  have HX := Lib.hid hx
  have HB := Lib.hid ((Below.refl w.heap.size w).alloc (Nat.le_refl _) (.cells #[.int .i64 next, .slice a segs.length cap] 37))
  have HC := Lib.hid (heap_alloc_new w (.cells #[.int .i64 next, .slice a segs.length cap] 37))
  clear hx
  obtain ⟨g, hge⟩ : ∃ g, w.heap.size = g := ⟨_, rfl⟩
  rw [hge] at HC
  have HGE := Lib.hid hge
  clear hge
  go_enter Tryz.func15, Tryz.ntmps15
  go_upto_region 1 with (fail)
  rw [HGE.out]
  generalize w.alloc (.cells #[.int .i64 next, .slice a segs.length cap] 37) = W at *
  have k0 := blkA HC.out 0
  have k1 := blkA HC.out 1
  simp only [List.getElem?_toArray, List.getElem?_cons_zero, List.getElem?_cons_succ] at k0 k1
  by_cases hn : 1 ≤ next ∧ next ≤ 1073741824
  · obtain ⟨hn1, hn2⟩ := hn
    have HBT : Hid (decide ((1 : Int) ≤ next ∧ next ≤ 1073741824) = true) := Lib.hid (by simp; omega)
    by_cases h30 : segs.length ≤ 30
    · have h30i : ¬ (30 : Int) < (segs.length : Int) := by omega
      have HR : Hid (rises 0 next segs = b) := Lib.hid (by rw [← H.out]; unfold right; rw [HBT.out, decide_eq_true h30]; simp)
      clear H
      go_wp2_with (go_at_call 44; refine (between_l _ _ _ true _ HBT).mono ?_; rintro x W ⟨rfl, rfl⟩)
      go_loopw [19, 3] (fun i z wr => ∃ (k : Nat) (q : Int), i = .int .i64 k ∧ z = .int .i64 q ∧ k ≤ segs.length ∧ (0 ≤ q ∧ q ≤ 1073741824) ∧ Hid (rises q next (segs.drop k) = b) ∧ wr = W) (fun i _ _ => segs.length - (intOf i).toNat)
      case atStart => exact ⟨0, 0, rfl, rfl, Nat.zero_le _, by omega, HR, rfl⟩
      case round =>
        obtain ⟨k, q, rfl, rfl, hk, ⟨hq1, hq2⟩, HQ, rfl⟩ := hrel
        clear HR
        by_cases hlt : k < segs.length
        · have hi1 : (k : Int) < (segs.length : Int) := by omega
          obtain ⟨-, bb, off, rfl, hc⟩ := HX.out k hlt
          have hcell : wr.cell? ⟨bb, off + k, none⟩ = some (.int .i64 segs[k]) := keepsA HB.out _ _ hc
          have HS := Lib.hid (rises_at hlt q next)
          clear hc
          generalize segs[k] = y at *
          by_cases hy : q < y ∧ y < next
          · have HYT : Hid (decide (q + 1 ≤ y ∧ y ≤ next - 1) = true) := Lib.hid (by simp; omega)
            have HQ2 : Hid (rises y next (segs.drop (k + 1)) = b) := Lib.hid (by
              have h1 := HQ.out
              rw [HS.out, decide_eq_true hy, Bool.true_and] at h1
              exact h1)
            go_wp2_with (go_at_call 44; refine (between_l _ _ _ true _ HYT).mono ?_; rintro x w' ⟨rfl, rfl⟩)
            go_roundw
            case rel => exact ⟨k + 1, y, by go_num, rfl, by omega, by omega, HQ2, by first | trivial | rfl⟩
            case measure => simp [intOf]; omega
          · have HYT : Hid (decide (q + 1 ≤ y ∧ y ≤ next - 1) = false) := Lib.hid (by rw [decide_eq_false_iff_not]; omega)
            have HE : Hid (b = false) := Lib.hid (by rw [← HQ.out, HS.out, decide_eq_false hy, Bool.false_and])
            go_wp2_with (go_at_call 44; refine (between_l _ _ _ false _ HYT).mono ?_; rintro x w' ⟨rfl, rfl⟩)
            go_ret
            rw [HE.out]
            exact ⟨rfl, HB.out⟩
        · have HE : Hid (b = true) := Lib.hid (by rw [← HQ.out, List.drop_eq_nil_of_le (by omega)]; rfl)
          go_wp2
          go_ret
          rw [HE.out]
          exact ⟨rfl, HB.out⟩
    · have h30i : (30 : Int) < (segs.length : Int) := by omega
      have HE : Hid (b = false) := Lib.hid (by rw [← H.out]; unfold right; rw [decide_eq_false h30]; simp)
      clear H
      go_wp2_with (go_at_call 44; refine (between_l _ _ _ true _ HBT).mono ?_; rintro x W ⟨rfl, rfl⟩)
      go_ret
      rw [HE.out]
      exact ⟨rfl, HB.out⟩
  · have HBT : Hid (decide ((1 : Int) ≤ next ∧ next ≤ 1073741824) = false) := Lib.hid (decide_eq_false hn)
    have HE : Hid (b = false) := Lib.hid (by rw [← H.out]; unfold right; rw [decide_eq_false hn]; simp)
    clear H
    go_wp2_with (go_at_call 44; refine (between_l _ _ _ false _ HBT).mono ?_; rintro x W ⟨rfl, rfl⟩)
    go_ret
    rw [HE.out]
    exact ⟨rfl, HB.out⟩

/-- What the two functions keep: what is left, whether nothing was wrong. -/
structure NxAt (g1 g2 : Nat) (s : Stt) (w : World) : Prop where
  ne : g1 ≠ g2
  left : w.heap[g1]? = some (.cells #[.string (B s.1)] 9 (0, 0))
  good : w.heap[g2]? = some (.cells #[.bool s.2] 4 (0, 0))
abbrev cloN (g1 g2 : Nat) : Value := .func (.func 87) #[] #[.pointer (some ⟨g1, 0, none⟩), .pointer (some ⟨g2, 0, none⟩)]
abbrev cloO (g1 g2 : Nat) : Value := .func (.func 89) #[] #[.pointer (some ⟨g2, 0, none⟩), .pointer (some ⟨g1, 0, none⟩)]
theorem NxAt.keep {g1 g2 : Nat} {s : Stt} {w w' : World} (h : NxAt g1 g2 s w) (h1 : w'.heap[g1]? = w.heap[g1]?) (h2 : w'.heap[g2]? = w.heap[g2]?) : NxAt g1 g2 s w' := ⟨h.ne, h1.trans h.left, h2.trans h.good⟩
theorem NxAt.below {g1 g2 : Nat} {s : Stt} {w w' : World} (h : NxAt g1 g2 s w) (hb : Below w.heap.size w w') : NxAt g1 g2 s w' := h.keep (hb.block _ (lt_of_block h.left)) (hb.block _ (lt_of_block h.good))
set_option maxHeartbeats 1000000 in
set_option maxRecDepth 100000 in
theorem next_l (g1 g2 : Nat) (s : Stt) (n : Nat) (s2 : Stt) (w : World) (h : NxAt g1 g2 s w) (hl : s.1.length ≤ 100000000) (H : Hid (step s = (n, s2))) :
    Calls Tryz.prog 87 #[.pointer (some ⟨g1, 0, none⟩), .pointer (some ⟨g2, 0, none⟩)] w fun x w' => x = .returned (.int .i64 (n : Int)) ∧ NxAt g1 g2 s2 w' ∧ D.But (fun k => k = g1 ∨ k = g2) w w' := by
  obtain ⟨l, good⟩ := s
  have HN := Lib.hid h.ne
  have hne := h.ne
  have hb1 := h.left
  have hb2 := h.good
  dsimp only at hl hb1 hb2
  have c1 := cell_of_one hb1
  have HT : Hid ((∃ r, N.takeL l = .ok n r ∧ s2 = (r, good)) ∨ (∃ e : Nat, N.takeL l = .bad e ∧ 0 < e ∧ n = 0 ∧ s2 = ([], false))) := Lib.hid (by
    have h1 := H.out
    rcases N.takeL_cases l with ⟨e, ht⟩ | ⟨m, r, ht⟩
    · rw [step_bad good ht] at h1
      cases h1
      exact .inr ⟨e, ht, K.num_errs l e ht, rfl, rfl⟩
    · rw [step_ok good ht] at h1
      cases h1
      exact .inl ⟨r, ht, rfl⟩)
  clear H h
  go_enter Tryz.func87, Tryz.ntmps87
  go_wp2_with fail
  refine (Take_l l w hl).mono ?_
  rintro x w1 ⟨rfl, q, rfl⟩
  have HB1 : Hid ((w.drewN q).heap[g1]? = some (.cells #[.string (B l)] 9 (0, 0))) := Lib.hid hb1
  have HB2 : Hid ((w.drewN q).heap[g2]? = some (.cells #[.bool good] 4 (0, 0))) := Lib.hid hb2
  have HBUT : Hid (D.But (fun k => k = g1 ∨ k = g2) w (w.drewN q)) := Lib.hid ⟨rfl, rfl, rfl, Nat.le_refl _, fun _ _ _ => rfl⟩
  clear hb1 hb2 c1
  generalize w.drewN q = w1 at *
  have c1 := cell_of_one HB1.out
  have c2 := cell_of_one HB2.out
  have f1 := free_of_one HB1.out
  have HFIN : Hid (∀ (r : Tx) (b : Bool), NxAt g1 g2 (r, b) ((w1.setCell ⟨g1, 0, none⟩ (.string (B r))).setCell ⟨g2, 0, none⟩ (.bool b)) ∧ D.But (fun k => k = g1 ∨ k = g2) w ((w1.setCell ⟨g1, 0, none⟩ (.string (B r))).setCell ⟨g2, 0, none⟩ (.bool b))) := Lib.hid fun r b => by
    refine ⟨⟨HN.out, ?_, ?_⟩, ⟨HBUT.out.os, HBUT.out.tape, HBUT.out.output, by simpa using HBUT.out.size, fun k hk hs => ?_⟩⟩
    · rw [Below.heap_setCell _ _ _ _ (by show g1 ≠ g2; exact HN.out)]
      exact one_setCell HB1.out
    · refine one_setCell (v := .bool good) ?_
      rw [Below.heap_setCell _ _ _ _ (by show g2 ≠ g1; exact HN.out.symm)]
      exact HB2.out
    · rw [Below.heap_setCell _ _ _ _ (by show k ≠ g2; exact fun e => hs (.inr e)), Below.heap_setCell _ _ _ _ (by show k ≠ g1; exact fun e => hs (.inl e))]
      exact HBUT.out.block k hk hs
  have f2 : ∀ u, (w1.setCell ⟨g1, 0, none⟩ u).frozen? ⟨g2, 0, none⟩ = false := fun u => free_of_one (v := .bool good) (t := 4) (by rw [Below.heap_setCell _ _ _ _ (by show g2 ≠ g1; exact HN.out.symm)]; exact HB2.out)
  rcases HT.out with ⟨r, ht, rfl⟩ | ⟨e, ht, he, rfl, rfl⟩
  · have HTT := Lib.hid ht
    clear ht HT
    rw [HTT.out, tkRes_ok]
    cases good
    · go_wp2
      go_ret
      exact ⟨rfl, HFIN.out _ _⟩
    · go_wp2
      go_ret
      exact ⟨rfl, HFIN.out _ _⟩
  · have HTT := Lib.hid ht
    have hei : ((e : Int) == 0) = false := beq_eq_false_iff_ne.2 (by omega)
    have hen : ¬ (e : Int) = 0 := by omega
    clear ht HT
    rw [HTT.out, tkRes_bad]
    cases good
    · go_wp2
      go_ret
      exact ⟨rfl, HFIN.out _ _⟩
    · go_wp2
      go_ret
      exact ⟨rfl, HFIN.out _ _⟩
set_option maxHeartbeats 1000000 in
set_option maxRecDepth 100000 in
theorem over_l (g1 g2 : Nat) (s : Stt) (b : Bool) (w : World) (h : NxAt g1 g2 s w) (H : Hid (decide (s = (([] : Tx), true)) = b)) :
    Calls Tryz.prog 89 #[.pointer (some ⟨g2, 0, none⟩), .pointer (some ⟨g1, 0, none⟩)] w fun x w' => x = .returned (.bool b) ∧ w' = w := by
  obtain ⟨l, good⟩ := s
  have c1 := cell_of_one h.left
  have c2 := cell_of_one h.good
  dsimp only at c1 c2
  cases good
  · have HE : Hid (b = false) := Lib.hid (by rw [← H.out]; simp)
    clear H h
    go_enter Tryz.func89, Tryz.ntmps89
    go_wp2
    go_ret
    rw [HE.out]
    exact ⟨rfl, rfl⟩
  · cases l with
    | nil =>
      have HE : Hid (b = true) := Lib.hid (by rw [← H.out]; simp)
      have he : (([] : Tx) == []) = true := rfl
      clear H h
      go_enter Tryz.func89, Tryz.ntmps89
      go_wp2
      go_ret
      rw [HE.out]
      exact ⟨rfl, rfl⟩
    | cons a l =>
      have HE : Hid (b = false) := Lib.hid (by rw [← H.out]; simp)
      have he : ((a :: l : Tx) == []) = false := rfl
      clear H h
      generalize (a :: l : Tx) = x at *
      go_enter Tryz.func89, Tryz.ntmps89
      go_wp2
      go_ret
      rw [HE.out]
      exact ⟨rfl, rfl⟩
set_option maxHeartbeats 1000000 in
set_option maxRecDepth 100000 in
theorem numbers_l (p : Tx) (w : World) :
    Calls Tryz.prog 65 #[.string (B p)] w fun x w' => x = .returned (.tuple #[cloN w.heap.size (w.heap.size + 1), cloO w.heap.size (w.heap.size + 1)]) ∧ NxAt w.heap.size (w.heap.size + 1) (p, true) w' ∧ w'.heap.size = w.heap.size + 2 ∧ Below w.heap.size w w' := by
  have hmf : ∀ (fn : Fn) (first cap : Array Value) (w : World), (Instr.makeFunc fn first cap).run Tryz.prog w = .ok (.func fn first cap) w := fun _ _ _ _ => rfl
  go_enter Tryz.func65, Tryz.ntmps65
  go_wp2
  go_ret2
  refine ⟨rfl, ⟨by omega, ?_, ?_⟩, by simp, ((Below.refl _ w).alloc (Nat.le_refl _) _).alloc (by simp) _⟩
  · rw [Below.heap_alloc _ _ _ (by simp)]
    exact heap_alloc_new w _
  · have := heap_alloc_new (w.alloc (.cells #[.string (B p)] 9)) (.cells #[.bool true] 4)
    rwa [World.size_alloc] at this
theorem PutN (n : Nat) (x : Tx) (w : World) (hn : n ≤ 1099511627776) (HX : Hid (N.putL n = x)) :
    Calls Tryz.prog 72 #[.int .i64 (n : Int)] w fun e w' => e = .returned (.string (B x)) ∧ Below w.heap.size w w' := by
  rw [← HX.out]; exact Put_l n w hn
abbrev P1 (w0 : World) (g : Nat) (z v : Value) (a : World) : Prop := a.cell? ⟨g, 0, none⟩ = some z ∧ a.cell? ⟨g, 1, none⟩ = some v ∧ Below w0.heap.size w0 a
theorem P1_drew {w0 a : World} {g : Nat} {z v : Value} (h : P1 w0 g z v a) : P1 w0 g z v a.drew := ⟨h.1, h.2.1, h.2.2.drew⟩
theorem P1_call {w0 a b : World} {g : Nat} {z v : Value} (h : P1 w0 g z v a) (hb : Below a.heap.size a b) : P1 w0 g z v b := ⟨keepsA hb _ _ h.1, keepsA hb _ _ h.2.1, h.2.2.trans (hb.mono h.2.2.size)⟩
set_option maxHeartbeats 2000000 in
set_option maxRecDepth 100000 in
theorem payloadOf_l (next : Int) (segs : List Int) (v : Value) (w : World) (x0 : Tx) (hv : ReadsI w v segs) (hr : right next segs = true) (H : Hid (payload next segs = x0)) :
    Calls Tryz.prog 48 #[.agg #[.int .i64 next, v]] w fun x w' => x = .returned (.string (B x0)) ∧ Below w.heap.size w w' := by
  have h1 := right_iff.1 hr
  have HRS := Lib.hid (right_segs hr)
  obtain ⟨nn, rfl⟩ : ∃ nn : Nat, next = nn := ⟨next.toNat, by omega⟩
  have hnn : nn ≤ 1099511627776 := by omega
  have hsl : segs.length ≤ 30 := h1.2.1
  have hsl2 : segs.length ≤ 1099511627776 := by omega
  obtain ⟨y, HY⟩ : ∃ y, Hid (N.putL nn = y) := ⟨_, Lib.hid rfl⟩
  obtain ⟨z, HZ⟩ : ∃ z, Hid (N.putL segs.length = z) := ⟨_, Lib.hid rfl⟩
  have HP : Hid (x0 = (y ++ z) ++ putsI segs) := Lib.hid (by rw [← H.out, ← HY.out, ← HZ.out]; simp [payload])
  have hyl : y.length ≤ 6 := by rw [← HY.out]; exact N.putL_len6 hnn
  have hzl : z.length ≤ 6 := by rw [← HZ.out]; exact N.putL_len6 hsl2
  have hcat : ∀ w' : World, (Op.stringOp .add (B y) (B z)).run Tryz.prog w' = .ok (.string (B (y ++ z))) w' := fun w' => by
    rw [run_string_add_sum w' (B y) (B z) (by rw [size_B, size_B]; omega), add_B]
  clear h1 hr H
  obtain ⟨a, cap, rfl, hx⟩ := hv
  have HX := Lib.hid hx
  have HB := Lib.hid ((Below.refl w.heap.size w).alloc (Nat.le_refl _) (.cells #[.int .i64 (nn : Int), .slice a segs.length cap] 37))
  have HC := Lib.hid (heap_alloc_new w (.cells #[.int .i64 (nn : Int), .slice a segs.length cap] 37))
  clear hx
  obtain ⟨g, hge⟩ : ∃ g, w.heap.size = g := ⟨_, rfl⟩
  rw [hge] at HC
  have HGE := Lib.hid hge
  clear hge
  go_enter Tryz.func48, Tryz.ntmps48
  go_upto_region 1 with (fail)
  rw [HGE.out]
  generalize w.alloc (.cells #[.int .i64 (nn : Int), .slice a segs.length cap] 37) = W at *
  have k0 := blkA HC.out 0
  have k1 := blkA HC.out 1
  simp only [List.getElem?_toArray, List.getElem?_cons_zero, List.getElem?_cons_succ] at k0 k1
  have hS : P1 w g (.int .i64 (nn : Int)) (.slice a segs.length cap) W := ⟨k0, k1, HB.out⟩
  clear k0 k1
  unfold P1 at hS
  go_region_held3 (fun w' => w'.cell? ⟨g, 0, none⟩ = some (.int .i64 (nn : Int)) ∧ w'.cell? ⟨g, 1, none⟩ = some (.slice a segs.length cap) ∧ Below w.heap.size w w')
    (first | assumption | exact P1_drew (by assumption) | exact P1_call (by assumption) (by assumption))
    (first
      | (go_at_call 72; with_reducible refine (PutN nn y _ hnn HY).mono ?_; rintro x w4 ⟨rfl, hb4⟩)
      | (go_at_call 72; with_reducible refine (PutN segs.length z _ hsl2 HZ).mono ?_; rintro x w5 ⟨rfl, hb5⟩))
  rename_i hHeld
  obtain ⟨k0, k1, hbel⟩ := hHeld
  have HBE := Lib.hid hbel
  clear hbel hS hcat HC HB
  go_wp2
  go_loopw [17, 3] (fun i s wr => ∃ k : Nat, i = .int .i64 k ∧ s = .string (B ((y ++ z) ++ putsI (segs.take k))) ∧ k ≤ segs.length ∧ Hid (Below w.heap.size w wr)) (fun i _ _ => segs.length - (intOf i).toNat)
  case atStart => exact ⟨0, rfl, by simp [putsI], Nat.zero_le _, HBE⟩
  case round =>
    obtain ⟨k, rfl, rfl, hk, HBW⟩ := hrel
    by_cases hlt : k < segs.length
    · have hi1 : (k : Int) < (segs.length : Int) := by omega
      obtain ⟨-, bb, off, rfl, hc⟩ := HX.out k hlt
      have hcell : wr.cell? ⟨bb, off + k, none⟩ = some (.int .i64 segs[k]) := keepsA HBW.out _ _ hc
      have hq := HRS.out segs[k] (List.getElem_mem hlt)
      have HST := Lib.hid (putsI_step hlt)
      have hln := putsI_len (l := segs.take k) fun n hn => by have := HRS.out n (List.mem_of_mem_take hn); omega
      rw [List.length_take] at hln
      clear hc
      generalize putsI (segs.take k) = acc at *
      generalize segs[k] = q at *
      obtain ⟨qn, rfl⟩ : ∃ qn : Nat, q = qn := ⟨q.toNat, by omega⟩
      obtain ⟨u, HU⟩ : ∃ u, Hid (N.putL qn = u) := ⟨_, Lib.hid rfl⟩
      have hul : u.length ≤ 6 := by rw [← HU.out]; exact N.putL_len6 (by omega)
      have HS2 : Hid (putsI (segs.take (k + 1)) = acc ++ u) := Lib.hid (by rw [HST.out, ← HU.out, Int.toNat_natCast])
      clear HST
      have hxl : ((y ++ z) ++ acc).length ≤ 200 := by rw [List.length_append, List.length_append]; omega
      have HX3 : Hid ((y ++ z) ++ putsI (segs.take (k + 1)) = ((y ++ z) ++ acc) ++ u) := Lib.hid (by rw [HS2.out]; simp only [List.append_assoc])
      generalize (y ++ z) ++ acc = t0 at *
      go_wp2_with fail
      refine (PutN qn u wr (by omega) HU).mono ?_
      rintro x w6 ⟨rfl, hb6⟩
      have HB6 := Lib.hid (HBW.out.trans (hb6.mono HBW.out.size))
      clear hb6
      go_wp2
      go_roundw
      case rel => exact ⟨k + 1, by go_num, by rw [HX3.out], by omega, HB6⟩
      case measure => simp [intOf]; omega
    · have HE : Hid ((y ++ z) ++ putsI (segs.take k) = x0) := Lib.hid (by rw [List.take_of_length_le (by omega), HP.out])
      go_wp2
      go_ret
      rw [HE.out]
      exact ⟨rfl, HBW.out⟩
end Go.Proofs.YtmfhipjceeijmaaGreat.A
