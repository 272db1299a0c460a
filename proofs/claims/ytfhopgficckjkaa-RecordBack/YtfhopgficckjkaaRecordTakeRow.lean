/-
  Walk of package record: TakeRow, of bytes of a row of right entries.
-/
import Derived.Test.YtfhopgficckjkaaRecordTake
import Derived.Test.YtfhopgficckjkaaRecordRowE
import Derived.Test.YtfhopgficckjkaaRecordSlice
import Derived.Deep.DeepCutAuto
namespace Go.Proofs.Ytfhopgficckjkaa
open Go.RowKit
attribute [local go_sem] ext_Bd ext_Bl ext_Bt toList_B add_B size_B get_Bt

/-- A row of entries that were taken. -/
structure RowT (w : World) (l : List R.En) (v : Value) (wr : World) (es : List EV) : Prop where
  ens : ensOf es = l
  own : wr.ownsRow w.heap.size 26 7 v es.length (enCells es)
  ev : ∀ p ∈ es, i64B p.1.pos ∧ ∃ bb, wr.ownsRow bb 56 2 p.2 p.1.b.events.length (evCells p.1.b.events)
  bel : Below w.heap.size w wr
theorem RowT.nil (w : World) : RowT w [] (.slice none 0 0) w [] := ⟨rfl, World.ownsRow_nil _ _ _ _, fun p hp => by simp at hp, Below.refl _ _⟩
theorem RowT.reads {w wr : World} {l : List R.En} {v : Value} {es : List EV} (h : RowT w l v wr es) : ReadsR wr v es :=
  readsR_own h.own fun p hp => by
    obtain ⟨h1, bb, h2⟩ := h.ev p hp
    exact ⟨readsE_own h2, h1⟩
theorem RowT.below {w wr w' : World} {l : List R.En} {v : Value} {es : List EV} (h : RowT w l v wr es) (hb : Below wr.heap.size wr w') : RowT w l v w' es :=
  ⟨h.ens, own_below5 h.own hb, fun p hp => by obtain ⟨h1, bb, h2⟩ := h.ev p hp; exact ⟨h1, bb, own_below5 h2 hb⟩, h.bel.trans (hb.mono h.bel.size)⟩
/-- A block that is no row's turns. -/
theorem RowT.box {w wr w' : World} {l : List R.En} {v : Value} {es : List EV} {g : Nat} (h : RowT w l v wr es) (hg : wr.heap[g]? = some zeroEn) (hne : v.ownBlock ≠ some g) (hk : ∀ k, k ≠ g → w'.heap[k]? = wr.heap[k]?) (hb : Below w.heap.size w w') : RowT w l v w' es := by
  refine ⟨h.ens, ⟨h.own.1, ?_⟩, fun p hp => ?_, hb⟩
  · rcases h.own.2 with hn | ⟨g2, cap, cur, rfl, hb2, hh, rest⟩
    · exact .inl hn
    · exact .inr ⟨g2, cap, cur, rfl, hb2, (hk g2 (fun e => hne (by simp [Value.ownBlock, e]))).trans hh, rest⟩
  · obtain ⟨h1, bb, h2⟩ := h.ev p hp
    exact ⟨h1, bb, own_zero h2 hg hk⟩
theorem ev_kept {w w' : World} {b1 b2 : Nat} {v1 v2 : Value} {n m : Nat} {xs ys : List Value} {o : Obj} (h : w.ownsRow b1 56 2 v1 n xs) (h2 : w.ownsRow b2 26 7 v2 m ys) (hg : (w.alloc o).grownBy w' v2.ownBlock) : w'.ownsRow b1 56 2 v1 n xs := by
  refine ⟨h.1, ?_⟩
  rcases h.2 with hn | ⟨g, cap, cur, rfl, hb, hh, rest⟩
  · exact .inl hn
  · have hl := lt_of_block hh
    refine .inr ⟨g, cap, cur, rfl, hb, ?_, rest⟩
    rw [hg.block g (by simp; omega) (fun e => ?_), Below.heap_alloc _ _ _ hl]
    · exact hh
    · rcases h2.2 with ⟨rfl, _⟩ | ⟨g2, cap2, cur2, rfl, _, hh2, _⟩
      · cases e
      · have e2 : g2 = g := by simpa [Value.ownBlock] using e.symm
        subst e2
        rw [hh2] at hh
        cases hh
theorem RowT.next {w wr w' : World} {l : List R.En} {v v' u : Value} {es : List EV} {e : R.En} {bb : Nat} {o : Obj} (h : RowT w l v wr es) (hp : i64B e.pos) (he : wr.ownsRow bb 56 2 u e.b.events.length (evCells e.b.events)) (hown : w'.ownsRow w.heap.size 26 7 v' (es.length + 1) (enCells es ++ evCells7 (e, u))) (hg : (wr.alloc o).grownBy w' v.ownBlock) : RowT w (l ++ [e]) v' w' (es ++ [(e, u)]) := by
  refine ⟨by simp [ensOf, ← h.ens], by rw [enCells_snoc, List.length_append]; exact hown, fun p hp2 => ?_, ?_⟩
  · rcases List.mem_append.1 hp2 with hp2 | hp2
    · obtain ⟨h1, bb, h2⟩ := h.ev p hp2
      exact ⟨h1, bb, ev_kept h2 h.own hg⟩
    · rw [List.mem_singleton] at hp2
      subst hp2
      exact ⟨hp, bb, ev_kept he h.own hg⟩
  · exact (h.bel.alloc h.bel.size o).grown hg (by have := h.bel.size; simp; omega) fun b hb => (h.own.lt b hb).1

set_option maxHeartbeats 1000000 in
set_option maxRecDepth 100000 in
theorem TakeRow_long (n : Nat) (s rest : List UInt8) (most : Int) (w : World) (hn : n ≤ 1000000) (HS : Hid (s = N.putL n ++ rest)) (hl : s.length ≤ 1000000) (hm : most < n) :
    Calls Try.prog 28 #[.string (B s), .int .i64 most] w fun x w' => x = .returned (.tuple #[.slice none 0 0, .string (B []), .int .i64 4]) ∧ sQuiet w w' := by
  have HT1 : Hid (N.takeL s = Sum.inl (n, rest)) := Lib.hid (by rw [HS.out]; exact N.take_put (by omega) _)
  clear HS
  go_enter Try.func28, Try.ntmps28
  go_wp2_with fail
  refine (Take_l s w (by omega)).mono ?_
  rintro x w1 ⟨rfl, n1, rfl⟩
  rw [HT1.out, show tkRes (Sum.inl (n, rest)) = _ from tkRes_ok n rest]
  go_wp2
  go_ret3
  exact ⟨rfl, _, rfl⟩

set_option maxHeartbeats 4000000 in
set_option maxRecDepth 100000 in
theorem TakeRow_ok (xs : List R.En) (s r : List UInt8) (w : World) (hr : ∀ e ∈ xs, R.right e = true) (hsm : ∀ e ∈ xs, E.Small e.b) (HS : Hid (s = R.rowB xs ++ r)) (hl : s.length ≤ 1000000) (hn : xs.length ≤ 40) :
    Calls Try.prog 28 #[.string (B s), .int .i64 xs.length] w fun x w' => ∃ v es, x = .returned (.tuple #[v, .string (B r), .int .i64 0]) ∧ RowT w xs v w' es := by
  obtain ⟨i0, hi, hz0, hz1, hz2⟩ := info_parts Try.infoEn
  have HRT := Lib.hid hr
  have HSM := Lib.hid hsm
  clear hr hsm
  obtain ⟨s1, HS1⟩ : ∃ s1, Hid (xs.flatMap R.bytes ++ r = s1) := ⟨_, Lib.hid rfl⟩
  have e1 : s = N.putL xs.length ++ s1 := by rw [HS.out]; unfold R.rowB; rw [List.append_assoc, HS1.out]
  have HT1 : Hid (N.takeL s = Sum.inl (xs.length, s1)) := Lib.hid (by rw [e1]; exact N.take_put (by omega) _)
  have hl1 : s1.length ≤ 1000000 := by rw [e1, List.length_append] at hl; omega
  clear e1 HS
  go_enter Try.func28, Try.ntmps28
  go_wp2_with fail
  refine (Take_l s w (by omega)).mono ?_
  rintro x w1 ⟨rfl, n1, rfl⟩
  rw [HT1.out, show tkRes (Sum.inl (xs.length, s1)) = _ from tkRes_ok xs.length s1]
  have HR0 : Hid (RowT w [] (.slice none 0 0) (w.drewN n1) []) := Lib.hid ⟨rfl, World.ownsRow_nil _ _ _ _, fun p hp => by simp at hp, below_drewN (Below.refl _ _) n1⟩
  clear HT1
  go_wp2
  go_loopw [8, 9, 10, 27] (fun vs ve u i wr => ∃ (k : Nat) (t : List UInt8), i = .int .i64 k ∧ vs = .string (B t) ∧ ve = .int .i64 0 ∧ k ≤ xs.length ∧ t = (xs.drop k).flatMap R.bytes ++ r ∧ ∃ es, RowT w (xs.take k) u wr es) (fun _ _ _ i _ => xs.length - (intOf i).toNat)
  case atStart => exact ⟨0, s1, rfl, rfl, rfl, Nat.zero_le _, by rw [List.drop_zero, HS1.out], [], by simpa using HR0.out⟩
  case round =>
    obtain ⟨k, t, rfl, rfl, rfl, hk, ht, es, hrow⟩ := hrel
    have HT := Lib.hid ht
    have HROW := Lib.hid hrow
    have htl : t.length ≤ 1000000 := by
      have h1 : t.length ≤ s1.length := by
        rw [ht, ← HS1.out, List.length_append, List.length_append]
        have h2 : ((xs.drop k).flatMap R.bytes).length ≤ (xs.flatMap R.bytes).length := by
          have h3 : xs.flatMap R.bytes = (xs.take k).flatMap R.bytes ++ (xs.drop k).flatMap R.bytes := by rw [← List.flatMap_append, List.take_append_drop]
          rw [h3, List.length_append]; omega
        omega
      omega
    have hesl : es.length ≤ 40 := by
      have := congrArg List.length hrow.ens
      rw [ensOf_len, List.length_take] at this
      omega
    clear ht hrow HR0
    by_cases hlt : k < xs.length
    · have hk1 : (k : Int) < (xs.length : Int) := by omega
      have HRK := Lib.hid (HRT.out _ (List.getElem_mem hlt))
      have HSK := Lib.hid (HSM.out _ (List.getElem_mem hlt))
      have HTK : Hid (t = R.bytes xs[k] ++ ((xs.drop (k + 1)).flatMap R.bytes ++ r)) := Lib.hid (by rw [HT.out, List.drop_eq_getElem_cons hlt, List.flatMap_cons, List.append_assoc])
      have HXT := Lib.hid (List.take_succ_eq_append_getElem hlt)
      obtain ⟨t2, HT2⟩ : ∃ t2, Hid ((xs.drop (k + 1)).flatMap R.bytes ++ r = t2) := ⟨_, Lib.hid rfl⟩
      rw [HT2.out] at HTK
      generalize xs[k] = e at HRK HSK HTK HXT
      have hpe : i64B e.pos := by
        have h5 := R.right_iff.1 HRK.out
        have hlg : R.large = 274877906944 := rfl
        exact ⟨by omega, by omega⟩
      have HPE := Lib.hid hpe; clear hpe
      have HA0 : Hid ((wr.alloc (.cells #[.int .i64 0, .int .i64 0, .string ⟨#[]⟩, .int .i64 0, .int .i64 0, .int .i64 0, .slice none 0 0] 26)).heap[wr.heap.size]? = some zeroEn) := Lib.hid (heap_alloc_new wr _)
      have HB0 := Lib.hid ((Below.refl _ wr).alloc (Nat.le_refl _) (.cells #[.int .i64 0, .int .i64 0, .string ⟨#[]⟩, .int .i64 0, .int .i64 0, .int .i64 0, .slice none 0 0] 26))
      go_wp2_with fail
      refine (Take6_ok e t t2 _ HRK.out HSK.out HTK htl).mono ?_
      rintro x w2 ⟨u, rfl, how2, hb2⟩
      have HA2 := Lib.hid (block_below HA0.out hb2)
      have hb3 : Below wr.heap.size wr w2 := HB0.out.trans (hb2.mono HB0.out.size)
      have HROW2 := Lib.hid (HROW.out.below hb3)
      have HNE : Hid (u10.ownBlock ≠ some wr.heap.size) := Lib.hid fun e => by have := (HROW.out.own.lt _ e).2; omega
      have HOW2 := Lib.hid how2
      obtain ⟨ua, uc, hu, _⟩ := own_slice how2
      subst hu
      clear how2 hb2 hb3 HA0 HB0 HRK HSK HTK
      dsimp only [enV]
      have a0 := block_cell HA2.out 0
      have a1 := block_cell HA2.out 1
      have a2 := block_cell HA2.out 2
      have a3 := block_cell HA2.out 3
      have a4 := block_cell HA2.out 4
      have a5 := block_cell HA2.out 5
      have a6 := block_cell HA2.out 6
      simp only [List.getElem?_toArray, List.getElem?_cons_zero, List.getElem?_cons_succ] at a0 a1 a2 a3 a4 a5 a6
      have l0 := block_loose HA2.out 0
      have l1 := block_loose HA2.out 1
      have l2 := block_loose HA2.out 2
      have l3 := block_loose HA2.out 3
      have l4 := block_loose HA2.out 4
      have l5 := block_loose HA2.out 5
      have l6 := block_loose HA2.out 6
      go_upto_region 11 with (fail)
      have HK := Lib.hid (set_seven (a0 := .int .i64 e.pos) (a1 := .int .i64 e.epoch) (a2 := .string (B e.b.stream)) (a3 := .int .i64 e.b.expect) (a4 := .int .i64 e.b.session) (a5 := .int .i64 e.b.seq) (a6 := .slice ua e.b.events.length uc) HA2.out)
      have HB9 := Lib.hid (below_seven HROW2.out.bel HROW.out.bel.size (.int .i64 e.pos) (.int .i64 e.epoch) (.string (B e.b.stream)) (.int .i64 e.b.expect) (.int .i64 e.b.session) (.int .i64 e.b.seq) (.slice ua e.b.events.length uc))
      have HROW9 := Lib.hid (HROW2.out.box HA2.out HNE.out (fun k hk => keep_seven hk (.int .i64 e.pos) (.int .i64 e.epoch) (.string (B e.b.stream)) (.int .i64 e.b.expect) (.int .i64 e.b.session) (.int .i64 e.b.seq) (.slice ua e.b.events.length uc)) HB9.out)
      have HOW9 := Lib.hid (own_zero HOW2.out HA2.out (fun k hk => keep_seven hk (.int .i64 e.pos) (.int .i64 e.epoch) (.string (B e.b.stream)) (.int .i64 e.b.expect) (.int .i64 e.b.session) (.int .i64 e.b.seq) (.slice ua e.b.events.length uc)))
      generalize ((((((w2.setCell ⟨wr.heap.size, 0, none⟩ (.int .i64 e.pos)).setCell ⟨wr.heap.size, 1, none⟩ (.int .i64 e.epoch)).setCell ⟨wr.heap.size, 2, none⟩ (.string (B e.b.stream))).setCell ⟨wr.heap.size, 3, none⟩ (.int .i64 e.b.expect)).setCell ⟨wr.heap.size, 4, none⟩ (.int .i64 e.b.session)).setCell ⟨wr.heap.size, 5, none⟩ (.int .i64 e.b.seq)).setCell ⟨wr.heap.size, 6, none⟩ (.slice ua e.b.events.length uc) = w9 at HK HB9 HROW9 HOW9 ⊢
      have k0 := block_cell HK.out 0
      have k1 := block_cell HK.out 1
      have k2 := block_cell HK.out 2
      have k3 := block_cell HK.out 3
      have k4 := block_cell HK.out 4
      have k5 := block_cell HK.out 5
      have k6 := block_cell HK.out 6
      simp only [List.getElem?_toArray, List.getElem?_cons_zero, List.getElem?_cons_succ] at k0 k1 k2 k3 k4 k5 k6
      clear a0 a1 a2 a3 a4 a5 a6 l0 l1 l2 l3 l4 l5 l6 HA2 HROW2 HOW2 HNE HROW
      have hown9 := HROW9.out.own
      have hsz9 := HROW9.out.bel.size
      go_wp2_with (at_builtin; refine wpList_append_own _ rfl _ _ 27 rfl w.heap.size 26 i0 _ 7 80 Try.underlying27 hi hz0 hz1 hz2 rfl (by decide) _ _ _ rfl (hown9.alloc _) ⟨w9.heap.size, 0, none⟩ 1 1 [.int .i64 e.pos, .int .i64 e.epoch, .string (B e.b.stream), .int .i64 e.b.expect, .int .i64 e.b.session, .int .i64 e.b.seq, .slice ua e.b.events.length uc] rfl rfl (World.news_of_block (cs := #[.int .i64 e.pos, .int .i64 e.epoch, .string (B e.b.stream), .int .i64 e.b.expect, .int .i64 e.b.session, .int .i64 e.b.seq, .slice ua e.b.events.length uc]) (t := 26) (fr := (0, 0)) (heap_alloc_new w9 _)) (by simp [Value.oneCell']) (by unfold maxLen; omega) (by omega) (by simp; omega) ?_; intro v' w10 hown10 hgrow10 _)
      have HN := Lib.hid (HROW9.out.next HPE.out HOW9.out hown10 hgrow10)
      clear hown10 hgrow10 hown9
      go_wp2
      go_roundw
      case rel => exact ⟨k + 1, t2, by go_num, rfl, rfl, by omega, HT2.out.symm, _, by rw [HXT.out]; exact HN.out⟩
      case measure => simp [intOf]; omega
    · have HE : Hid (RowT w xs u10 wr es) := Lib.hid (by have := HROW.out; rwa [List.take_of_length_le (by omega)] at this)
      have HTE := Lib.hid (show t = r by rw [HT.out, List.drop_of_length_le (by omega)]; rfl)
      have hki : ¬ (k : Int) < (xs.length : Int) := by omega
      go_wp2
      go_ret3
      rw [HTE.out]
      first | exact ⟨_, es, rfl, HE.out⟩ | exact ⟨_, rfl, es, HE.out⟩
end Go.Proofs.Ytfhopgficckjkaa
