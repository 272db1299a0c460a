/-
  Helpers of chapter 10's laws: pick, begun, sameInts, shown.
-/
import Derived.Test.YtmfhipjceeijmaaManCode6
import Derived.Test.YtmfhipjceeijmaaRegionPass
namespace Go.Proofs.Ytmfhipjceeijmaa.A
open Go.RowKit
open D (Tx ReadsI i64B readsI_below dP)
attribute [local go_sem] ext_Bd ext_Bl ext_Bt toList_B add_B size_B get_Bt

def pickN (c : Int) (n : Nat) : Nat := (if c < 0 then -(c + 1) else c).toNat % n
theorem pickN_lt (c : Int) {n : Nat} (h : 0 < n) : pickN c n < n := Nat.mod_lt _ h
set_option maxHeartbeats 1000000 in
set_option maxRecDepth 100000 in
theorem pick10_l (c : Int) (n : Nat) (k : Nat) (w : World) (hc : i64B c) (hn : 0 < n) (hn2 : n ≤ 1000000) (H : Hid (pickN c n = k)) :
    Calls Try.prog 8 #[.int .i64 c, .int .i64 (n : Int)] w fun x w' => x = .returned (.int .i64 (k : Int)) ∧ w' = w := by
  obtain ⟨h1, h2⟩ := hc
  have hn0 : ((n : Int) == 0) = false := beq_eq_false_iff_ne.2 (by omega)
  have hn1 : ¬ (n : Int) = 0 := by omega
  by_cases h : c < 0
  · have HE : Hid (Int.tmod (-(c + 1)) (n : Int) = (k : Int)) := Lib.hid (by
      rw [← H.out]
      unfold pickN
      rw [if_pos h, Int.tmod_eq_emod_of_nonneg (by omega), Int.natCast_emod, Int.toNat_of_nonneg (by omega)])
    go_enter Try.func8, Try.ntmps8
    go_wp2
    go_ret
    rw [← HE.out, Int.neg_tmod]
    exact ⟨rfl, rfl⟩
  · have HE : Hid (c % (n : Int) = (k : Int)) := Lib.hid (by
      rw [← H.out]
      unfold pickN
      rw [if_neg h, Int.natCast_emod, Int.toNat_of_nonneg (by omega)])
    go_enter Try.func8, Try.ntmps8
    go_wp2
    go_ret
    rw [← HE.out]
    exact ⟨rfl, rfl⟩
set_option maxHeartbeats 2000000 in
set_option maxRecDepth 100000 in
theorem mNew10 (room : Nat) (w : World) (h1 : 1 ≤ room) (h2 : room ≤ 1073741824) :
    Calls Try.prog 19 #[.int .i64 (room : Int)] w fun x w' => x = .returned (.tuple #[.pointer (some ⟨w.heap.size, 0, none⟩), .int .i64 0]) ∧ w'.heap[w.heap.size]? = some (.cells #[.slice none 0 0, .int .i64 (room : Int)] 78 (0, 0)) ∧ Below w.heap.size w w' := by
  have h1i : (1 : Int) ≤ (room : Int) := by omega
  have h2i : (room : Int) ≤ 1073741824 := by omega
  go_enter Try.func19, Try.ntmps19
  go_wp2
  go_ret2
  exact ⟨rfl, World.alloc_heap_new w _, (Below.refl _ w).alloc (Nat.le_refl _) _⟩
set_option maxHeartbeats 4000000 in
set_option maxRecDepth 100000 in
theorem begun10_l (C : D.DC) {bs : Nat} (room : Nat) (w : World) (hb : bs ≤ w.heap.size) (h1 : 1 ≤ room) (h2 : room ≤ 1073741824) :
    Calls Try.prog 7 #[.int .i64 (room : Int)] w fun x w' => (∃ p m S, x = .returned (.tuple #[.agg #[dP p, .pointer (some ⟨m, 0, none⟩)], .bool true]) ∧ C.At bs w' p room [] S ∧ w'.heap[m]? = some (.cells #[.slice none 0 0, .int .i64 (room : Int)] 78 (0, 0)) ∧ bs ≤ m ∧ ¬ S m) ∧ Below w.heap.size w w' := by
  have HB := Lib.hid hb
  clear hb
  have HB0 := Lib.hid ((Below.refl w.heap.size w).alloc (Nat.le_refl _) (.cells #[.pointer none, .pointer none] 28))
  have HX0 := Lib.hid (heap_alloc_new w (.cells #[.pointer none, .pointer none] 28))
  have HS0 : Hid ((w.alloc (.cells #[.pointer none, .pointer none] 28)).heap.size = w.heap.size + 1) := Lib.hid (by simp)
  have HNEW := Lib.hid (C.new_ok (bs := bs) (w := w.alloc (.cells #[.pointer none, .pointer none] 28)) room (Nat.le_trans HB.out HB0.out.size) h1 h2)
  go_enter Try.func7, Try.ntmps7
  go_wp2_with fail
  generalize w.alloc (.cells #[.pointer none, .pointer none] 28) = w0 at *
  refine HNEW.out.mono ?_
  rintro x w1 ⟨⟨p, S, rfl, hd, hS⟩, hb1⟩
  rw [HS0.out] at hS
  have HS := Lib.hid hS
  have HD1 := Lib.hid hd
  have HB1 := Lib.hid (HB0.out.trans (hb1.mono HB0.out.size))
  have HX1 : Hid (w1.heap[w.heap.size]? = some (.cells #[.pointer none, .pointer none] 28 (0, 0))) := Lib.hid ((hb1.block _ (by rw [HS0.out]; omega)).trans HX0.out)
  have hs1 : w.heap.size < w1.heap.size := lt_of_block HX1.out
  clear hd hS hb1 HNEW HX0 HB0
  go_wp2_with fail
  refine (mNew10 room w1 h1 h2).mono ?_
  rintro x w2 ⟨rfl, hm, hb2⟩
  have HM := Lib.hid hm
  have HD2 := Lib.hid (C.below HD1.out hb2)
  have HB2 := Lib.hid (HB1.out.trans (hb2.mono HB1.out.size))
  have HX2 : Hid (w2.heap[w.heap.size]? = some (.cells #[.pointer none, .pointer none] 28 (0, 0))) := Lib.hid ((hb2.block _ hs1).trans HX1.out)
  have HNS : Hid (¬ S w1.heap.size) := Lib.hid fun h => by have := (C.low HD1.out h).2; omega
  obtain ⟨m, hme⟩ : ∃ m, w1.heap.size = m := ⟨_, rfl⟩
  rw [hme] at HM HNS hs1
  rw [hme]
  clear hm hb2 HD1 HB1 HX1 hme
  have z0 : w2.cell? ⟨w.heap.size, 0, none⟩ = some (.pointer none) := by simp [World.cell?, HX2.out]
  have z1 : w2.cell? ⟨w.heap.size, 1, none⟩ = some (.pointer none) := by simp [World.cell?, HX2.out]
  have f0 : w2.frozen? ⟨w.heap.size, 0, none⟩ = false := by simp [World.frozen?, HX2.out]
  have f1 : w2.frozen? ⟨w.heap.size, 1, none⟩ = false := by simp [World.frozen?, HX2.out]
  have HW3 : Hid (Below w.heap.size w ((w2.setCell ⟨w.heap.size, 0, none⟩ (dP p)).setCell ⟨w.heap.size, 1, none⟩ (.pointer (some ⟨m, 0, none⟩)))) := Lib.hid ⟨HB2.out.os, HB2.out.tape, HB2.out.output, by simpa using HB2.out.size, fun k hk => by
    rw [Below.heap_setCell _ _ _ _ (by show k ≠ w.heap.size; omega), Below.heap_setCell _ _ _ _ (by show k ≠ w.heap.size; omega)]
    exact HB2.out.block k hk⟩
  have HD3 := Lib.hid (C.keep HD2.out (w' := (w2.setCell ⟨w.heap.size, 0, none⟩ (dP p)).setCell ⟨w.heap.size, 1, none⟩ (.pointer (some ⟨m, 0, none⟩))) (by simp) fun k hk => by
    have := HS.out k hk
    rw [Below.heap_setCell _ _ _ _ (by show k ≠ w.heap.size; omega), Below.heap_setCell _ _ _ _ (by show k ≠ w.heap.size; omega)])
  have HM3 : Hid (((w2.setCell ⟨w.heap.size, 0, none⟩ (dP p)).setCell ⟨w.heap.size, 1, none⟩ (.pointer (some ⟨m, 0, none⟩))).heap[m]? = some (.cells #[.slice none 0 0, .int .i64 (room : Int)] 78 (0, 0))) := Lib.hid (by
    rw [Below.heap_setCell _ _ _ _ (by show m ≠ w.heap.size; omega), Below.heap_setCell _ _ _ _ (by show m ≠ w.heap.size; omega)]
    exact HM.out)
  have e1 := twoA HX2.out (dP p) (.pointer (some ⟨m, 0, none⟩))
  have k0 := e1.1
  have k1 := e1.2
  have HMB : Hid (bs ≤ m) := Lib.hid (by have := HB.out; omega)
  go_wp2
  refine bodyPost_ret (v := .tuple #[.agg #[dP p, .pointer (some ⟨m, 0, none⟩)], .bool true]) (by simp [results, Try.results7, go_sem, k0, k1]) rfl ⟨⟨p, m, S, rfl, HD3.out, HM3.out, HMB.out, HNS.out⟩, HW3.out⟩

theorem but_low {S : Nat → Prop} {w wr w' : World} (h : Below w.heap.size w wr) (hb : D.But S wr w') (hS : ∀ k, S k → w.heap.size ≤ k) : Below w.heap.size w w' :=
  ⟨hb.os.trans h.os, hb.tape.trans h.tape, hb.output.trans h.output, Nat.le_trans h.size hb.size, fun k hk => (hb.block k (Nat.lt_of_lt_of_le hk h.size) fun hs => by have := hS k hs; omega).trans (h.block k hk)⟩
/-- A disk at work: where it lies, the law's block that tells it. -/
structure OnA (C : D.DC) (w0 : World) (room p ga : Nat) (wr : World) (l : List D.F) (S : Nat → Prop) : Prop where
  at_ : C.At w0.heap.size wr p room l S
  pa : wr.cell? ⟨ga, 0, none⟩ = some (dP p)
  na : ¬ S ga
  bel : Below w0.heap.size w0 wr
section
variable {C : D.DC} {w0 : World} {room p ga : Nat} {wr w' : World} {l l2 : List D.F} {S S2 : Nat → Prop}
theorem OnA.lo (h : OnA C w0 room p ga wr l S) : ∀ k, S k → w0.heap.size ≤ k := fun _ hk => (C.low h.at_ hk).1
theorem OnA.next (h : OnA C w0 room p ga wr l S) (hd : C.At w0.heap.size w' p room l2 S2) (hg : D.Grow S wr S2) (hb : D.But S wr w') : OnA C w0 room p ga w' l2 S2 :=
  ⟨hd, cellA h.pa hb h.na, fun h1 => by
    rcases hg ga h1 with h3 | h3
    · exact h.na h3
    · have := World.block_lt_of_cell? _ _ h.pa
      dsimp only at this
      omega, but_low h.bel hb h.lo⟩
theorem OnA.below (h : OnA C w0 room p ga wr l S) (hb : Below wr.heap.size wr w') : OnA C w0 room p ga w' l S := h.next (C.below h.at_ hb) (fun _ h => .inl h) (D.But.of_below hb)
theorem OnA.drew (h : OnA C w0 room p ga wr l S) : OnA C w0 room p ga wr.drew l S :=
  ⟨C.keep (w' := wr.drew) h.at_ (Nat.le_refl _) (fun _ _ => rfl), h.pa, h.na, ⟨h.bel.os, h.bel.tape, h.bel.output, h.bel.size, h.bel.block⟩⟩
/-- A block that stands by and is none of the disk's stays. -/
theorem offA {wr : World} {S S2 : Nat → Prop} (hg : D.Grow S wr S2) {k : Nat} (hk : k < wr.heap.size) (hs : ¬ S k) : ¬ S2 k := fun h1 => by
  rcases hg k h1 with h3 | h3
  · exact hs h3
  · omega
end
theorem same_at {xs ys : List Int} {k : Nat} (h : k < xs.length) (h2 : k < ys.length) (hp : xs.take k = ys.take k) : xs.take (k + 1) = ys.take (k + 1) ↔ xs[k] = ys[k] := by
  rw [List.take_succ_eq_append_getElem h, List.take_succ_eq_append_getElem h2, hp]
  exact ⟨fun e => (List.cons.inj (List.append_cancel_left e)).1, fun e => by rw [e]⟩
set_option maxHeartbeats 1000000 in
set_option maxRecDepth 100000 in
theorem sameInts_l (xs ys : List Int) (va vb : Value) (b : Bool) (w : World) (ha : ReadsI w va xs) (hb : ReadsI w vb ys) (hl : xs.length ≤ 1000000) (H : Hid (decide (xs = ys) = b)) :
    Calls Try.prog 13 #[va, vb] w fun x w' => x = .returned (.bool b) ∧ Below w.heap.size w w' := by
  obtain ⟨a, c, rfl, hx⟩ := ha
  obtain ⟨a2, c2, rfl, hy⟩ := hb
  have HX := Lib.hid hx
  have HY := Lib.hid hy
  clear hx hy
  by_cases hn : xs.length = ys.length
  · have HN := Lib.hid hn
    go_enter Try.func13, Try.ntmps13
    rw [← hn]
    clear hn
    go_wp2
    go_loopw [5] (fun i wr => ∃ k : Nat, i = .int .i64 k ∧ k ≤ xs.length ∧ Hid (xs.take k = ys.take k) ∧ Hid (Below w.heap.size w wr)) (fun i _ => xs.length - (intOf i).toNat)
    case atStart => exact ⟨0, rfl, Nat.zero_le _, Lib.hid rfl, Lib.hid (by first | exact Below.refl _ _ | exact (Below.refl _ w).drew)⟩
    case round =>
      obtain ⟨k, rfl, hk, HP, HB⟩ := hrel
      by_cases hlt : k < xs.length
      · have hlt2 : k < ys.length := by have := HN.out; omega
        have hi1 : (k : Int) < (xs.length : Int) := by omega
        obtain ⟨-, b1, o1, rfl, h1⟩ := HX.out k hlt
        obtain ⟨-, b2, o2, rfl, h2⟩ := HY.out k hlt2
        have q1 := keepsA HB.out _ _ h1
        have q2 := keepsA HB.out _ _ h2
        have HS := Lib.hid (same_at hlt hlt2 HP.out)
        have HNE : Hid (xs[k] ≠ ys[k] → b = false) := Lib.hid fun h => by
          rw [← H.out]
          exact decide_eq_false fun e => h (by subst e; rfl)
        clear h1 h2
        generalize xs[k] = u at *
        generalize ys[k] = v at *
        by_cases he : u = v
        · subst he
          have HT := Lib.hid (HS.out.2 rfl)
          go_wp2
          go_region
          all_goals
            go_wp2
            go_roundw
            case rel => exact ⟨k + 1, by go_num, by omega, HT, Lib.hid (by first | exact HB.out | exact HB.out.drew)⟩
            case measure => simp [intOf]; omega
        · have hne : (u != v) = true := by simp [he]
          have hne2 : (u == v) = false := beq_eq_false_iff_ne.2 he
          have HE := Lib.hid (HNE.out he)
          go_wp2
          go_region
          all_goals
            go_wp2
            go_ret
            rw [HE.out]
            exact ⟨rfl, by first | exact HB.out | exact HB.out.drew⟩
      · have HE : Hid (b = true) := Lib.hid (by
          rw [← H.out, decide_eq_true_eq]
          have h1 := HP.out
          rw [List.take_of_length_le (by omega), List.take_of_length_le (by have := HN.out; omega)] at h1
          exact h1)
        go_wp2
        go_ret
        rw [HE.out]
        exact ⟨rfl, HB.out⟩
  · have hne : ((xs.length : Int) == (ys.length : Int)) = false := beq_eq_false_iff_ne.2 (by omega)
    have hnn : ¬ xs.length = ys.length := hn
    have HE : Hid (b = false) := Lib.hid (by rw [← H.out]; exact decide_eq_false fun e => hn (by rw [e]))
    go_enter Try.func13, Try.ntmps13
    go_wp2
    go_ret
    rw [HE.out]
    exact ⟨rfl, Below.refl _ _⟩
theorem load_none : loadD [] = (0, 1, []) := rfl
set_option maxHeartbeats 4000000 in
set_option maxRecDepth 100000 in
theorem shown10_l (C : D.DC) (w : World) :
    Calls Try.prog 6 #[] w fun x w' => x = .returned (.bool true) ∧ Below w.heap.size w w' := by
  obtain ⟨l1, hr1, hep1⟩ := (Ep.start).raise (room := 1000) (by omega) (z := 3) (by omega) (by unfold far; omega) (by omega)
  have hr2 : raiseD 1000 2 l1 = (10, l1) := hep1.low (by omega) (by unfold far; omega) (by simp)
  have he1 : (epochD l1).1 = 3 := hep1.epoch
  have HR1 := Lib.hid hr1
  have HR2 := Lib.hid hr2
  have HI1 := Lib.hid (hep1.inv (room := 1000) (by omega))
  obtain ⟨⟨q1, q2, q3⟩, heq⟩ : ∃ q, epochD l1 = q := ⟨_, rfl⟩
  have hq1 : q1 = 3 := by rw [heq] at he1; exact he1
  subst hq1
  have HEP := Lib.hid heq
  clear hr1 hr2 he1 heq hep1
  go_enter Try.func6, Try.ntmps6
  go_wp2_with fail
  refine (begun10_l C (bs := w.heap.size) 1000 w (Nat.le_refl _) (by omega) (by omega)).mono ?_
  rintro x w2 ⟨⟨p, m, S, rfl, hd, -, -, -⟩, hb2⟩
  have hal : Below w2.heap.size w2 (w2.alloc (.cells #[dP p, .pointer (some ⟨m, 0, none⟩)] 28)) := (Below.refl _ _).alloc (Nat.le_refl _) _
  have hnew := heap_alloc_new w2 (.cells #[dP p, .pointer (some ⟨m, 0, none⟩)] 28)
  have HO : Hid (OnA C w 1000 p w2.heap.size (w2.alloc (.cells #[dP p, .pointer (some ⟨m, 0, none⟩)] 28)) [] S) := Lib.hid ⟨C.below hd hal, by rw [blkA hnew]; rfl, fun h => by have := (C.low hd h).2; omega, hb2.trans (hal.mono hb2.size)⟩
  clear hd hb2 hal hnew
  go_upto_region 2 with (fail)
  generalize w2.alloc (.cells #[dP p, .pointer (some ⟨m, 0, none⟩)] 28) = w3 at *
  generalize w2.heap.size = ga at *
  have c3 := HO.out.pa
  go_wp2_with fail
  refine (Load_l C 0 1 [] HO.out.at_ (D.inv_nil _) (by omega) load_none).mono ?_
  rintro x w4 ⟨⟨v, rfl, hown⟩, hb4⟩
  obtain ⟨a, cap, hv, -⟩ := reads_own hown
  simp only [intCells, List.map_nil, List.length_nil] at hv
  subst hv
  have hal4 : Below w4.heap.size w4 (w4.alloc (.cells #[.int .i64 ((1 : Nat) : Int), .slice a 0 cap] 33)) := (Below.refl _ _).alloc (Nat.le_refl _) _
  have hnew4 := heap_alloc_new w4 (.cells #[.int .i64 ((1 : Nat) : Int), .slice a 0 cap] 33)
  have HO5 := Lib.hid ((HO.out.below hb4).below hal4)
  have HN5 := Lib.hid hnew4
  clear hown hb4 hal4 hnew4 c3 HO
  go_upto_region 5 with (fail)
  generalize w4.alloc (.cells #[.int .i64 ((1 : Nat) : Int), .slice a 0 cap] 33) = w5 at *
  generalize w4.heap.size = gm at *
  have d0 := blkA HN5.out 0
  have d1 := blkA HN5.out 1
  simp only [List.getElem?_toArray, List.getElem?_cons_zero, List.getElem?_cons_succ] at d0 d1
  have c5 := HO5.out.pa
  clear HN5
  go_wp2_with fail
  refine (Raise_l C 3 0 l1 HO5.out.at_ (D.inv_nil _) (by omega) HR1.out).mono ?_
  rintro x w6 ⟨rfl, ⟨S6, hA6, hg6⟩, hb6⟩
  have HO6 := Lib.hid (HO5.out.next hA6 hg6 hb6)
  clear hA6 hg6 hb6 c5 HO5
  have c6 := HO6.out.pa
  go_wp2_with fail
  refine (Raise_l C 2 10 l1 HO6.out.at_ HI1.out (by omega) HR2.out).mono ?_
  rintro x w7 ⟨rfl, ⟨S7, hA7, hg7⟩, hb7⟩
  have HO7 := Lib.hid (HO6.out.next hA7 hg7 hb7)
  clear hA7 hg7 hb7 c6 HO6
  have c7 := HO7.out.pa
  go_wp2_with fail
  refine (Epoch_l C 3 q2 q3 HO7.out.at_ HI1.out (by omega) HEP.out).mono ?_
  rintro x w8 ⟨rfl, hb8⟩
  have HO8 := Lib.hid (HO7.out.below hb8)
  clear hb8 c7 HO7
  go_wp2
  go_ret
  exact ⟨rfl, HO8.out.bel⟩
end Go.Proofs.Ytmfhipjceeijmaa.A
