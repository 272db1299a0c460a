/-
  Walk of the document's answer: Marks.
-/
import Derived.Test.YtfhopgficckjkaaRecordMarks
import Derived.Deep.RegionLaw
import Derived.Deep.AppendLies
namespace Go.Proofs.Ytfhopgficckjkaa
open Go.RowKit
attribute [local go_sem] ext_Bd ext_Bl ext_Bt toList_B add_B size_B get_Bt

set_option maxHeartbeats 4000000 in
set_option maxRecDepth 100000 in
theorem refMarks_l (es : List EV) (v : Value) (w : World) (hv : ReadsR w v es) (hl : es.length ≤ 1000) :
    Calls Try.prog 24 #[v] w fun r w' => ∃ u, r = .returned u ∧ ReadsM w' u (R.marks (ensOf es)) ∧ Below w.heap.size w w' := by
  obtain ⟨i0, hi, hz0, hz1, hz2⟩ := info_parts Try.infoMk
  obtain ⟨a, cap, rfl, hcp, _, hx⟩ := hv
  have HX := Lib.hid hx; clear hx
  obtain ⟨l, HL⟩ : ∃ l, Hid (ensOf es = l) := ⟨_, Lib.hid rfl⟩
  have HLL := Lib.hid (show l.length = es.length by rw [← HL.out, ensOf_len])
  have HLG : Hid (∀ i (h : i < es.length), l[i]'(by rw [HLL.out]; exact h) = es[i].1) := Lib.hid fun i h => by
    have := HL.out; subst this; simp
  rw [HL.out]
  clear HL
  go_enter Try.func24, Try.ntmps24
  go_wp2
  go_loopw [3, 4] (fun u i wr => ∃ k : Nat, i = .int .i64 k ∧ k ≤ es.length ∧ MarksAt w l k u wr) (fun _ i _ => es.length - (intOf i).toNat)
  case atStart => exact ⟨0, rfl, Nat.zero_le _, World.ownsRow_nil _ _ _ _, Below.refl _ _⟩
  case round =>
    obtain ⟨k, rfl, hk, hat⟩ := hrel
    have HAT := Lib.hid hat; clear hat
    by_cases hlt : k < es.length
    · obtain ⟨hre, -, b1, o1, rfl, hat7⟩ := HX.out k hlt
      have h7 := hat7.keep (below_keeps HAT.out.bel)
      clear hat7 hre
      have hi1 : (k : Int) < (es.length : Int) := by omega
      have hml := R.marks_len (l.take k)
      rw [List.length_take] at hml
      have HE := Lib.hid (HLG.out k hlt)
      have HMF : Hid (k = 0 → R.marks (l.take (k + 1)) = R.marks (l.take k) ++ [((es[k].1).epoch, (es[k].1).pos)]) := Lib.hid fun h => by
        subst h
        rw [← HE.out]
        exact R.marks_first (by rw [HLL.out]; exact hlt)
      have HMS : Hid (∀ j, k = j + 1 → ∃ (hj : j < es.length), ((es[k].1).epoch = (es[j].1).epoch → R.marks (l.take (k + 1)) = R.marks (l.take k)) ∧ (¬ (es[k].1).epoch = (es[j].1).epoch → R.marks (l.take (k + 1)) = R.marks (l.take k) ++ [((es[k].1).epoch, (es[k].1).pos)])) := Lib.hid fun j h => by
        subst h
        refine ⟨by omega, fun h => ?_, fun h => ?_⟩
        · exact R.marks_same (by rw [HLL.out]; exact hlt) (by rw [HE.out, HLG.out j (by omega)]; exact h)
        · rw [← HE.out]
          exact R.marks_new (by rw [HLL.out]; exact hlt) (by rw [HE.out, HLG.out j (by omega)]; exact h)
      clear HE
      generalize es[k].1 = e1 at *
      obtain ⟨pos, ep, st, ex, se, sq, evs⟩ := e1
      obtain ⟨c0, c1, -⟩ := h7
      dsimp only at c0 c1 HMF HMS
      have hown := HAT.out.own
      have hsz := HAT.out.bel.size
      by_cases hk0 : k = 0
      · have HMN := Lib.hid (HMF.out hk0)
        subst hk0
        simp only [Nat.zero_mul, Nat.add_zero] at c0 c1
        go_wp2
        go_quiet (fail)
        go_wp2
        go_region_law
          ((refine step_append_lies _ (by rfl) _ _ _ (by rfl) w.heap.size 52 i0 _ 2 16 Try.underlying35 hi hz0 hz1 hz2 rfl (by omega) u3 _ _ (by rfl) (((own_drewN hown _).alloc _).drew)
              ⟨wr.heap.size, 0, none⟩ 1 1 [.int .i64 ep, .int .i64 pos] (by rfl) (by rfl) (World.news_of_block (cs := #[.int .i64 ep, .int .i64 pos]) (t := 52) (fr := (0, 0)) (heap_alloc_new (wr.drewN _) _)) (by simp [Value.oneCell'])
              (by omega) (by unfold maxLen; omega) (by omega) (by simp; omega) (wr.heap.size + 1) (by simp) ?_; intro gg cap w2 hown2 hgrow hat hlt2))
        all_goals
          have HN := Lib.hid (marks_next HAT.out HMN.out hown2 hgrow)
          clear hgrow hat hlt2 hown2
          go_wp2
          go_roundw
          case rel => exact ⟨0 + 1, by go_num, by omega, HN.out⟩
          case measure => simp [intOf]; omega
      · obtain ⟨j, rfl⟩ : ∃ j, k = j + 1 := ⟨k - 1, by omega⟩
        obtain ⟨hj, hsame, hnew⟩ := HMS.out j rfl
        have HSAME := Lib.hid hsame
        have HNEW := Lib.hid hnew
        obtain ⟨-, -, b2, o2, hbe, h72⟩ := HX.out j hj
        cases hbe
        have d1 := (h72.keep (below_keeps HAT.out.bel)).2.1
        clear hsame hnew HMS HMF h72
        have hji : (j : Int) < (es.length : Int) := by omega
        have hji1 : (j : Int) + 1 < (es.length : Int) := by omega
        have hji0 : 0 ≤ (j : Int) + 1 := by omega
        have hjt : ((j : Int) + 1).toNat = j + 1 := by omega
        generalize (es[j].1).epoch = ep2 at *
        have hk0i : (((j + 1 : Nat) : Int) == 0) = false := beq_eq_false_iff_ne.2 (by omega)
        have hk0j : ((j : Int) + 1 == 0) = false := beq_eq_false_iff_ne.2 (by omega)
        by_cases he : ep = ep2
        · have HMN := Lib.hid (HSAME.out he)
          have heb : (ep != ep2) = false := by simp [he]
          have hec : (ep == ep2) = true := by simp [he]
          clear he
          go_wp2
          go_quiet (fail)
          go_wp2
          go_roundw
          case rel => exact ⟨j + 1 + 1, by go_num, by omega, marks_quiet HAT.out HMN.out _⟩
          case measure => simp [intOf]; omega
        · have HMN := Lib.hid (HNEW.out he)
          have heb : (ep != ep2) = true := by simp [he]
          have hec : (ep == ep2) = false := by simp [he]
          clear he
          go_wp2
          go_quiet (fail)
          go_wp2
          go_region_law
            ((refine step_append_lies _ (by rfl) _ _ _ (by rfl) w.heap.size 52 i0 _ 2 16 Try.underlying35 hi hz0 hz1 hz2 rfl (by omega) u3 _ _ (by rfl) (((own_drewN hown _).alloc _).drew)
                ⟨wr.heap.size, 0, none⟩ 1 1 [.int .i64 ep, .int .i64 pos] (by rfl) (by rfl) (World.news_of_block (cs := #[.int .i64 ep, .int .i64 pos]) (t := 52) (fr := (0, 0)) (heap_alloc_new (wr.drewN _) _)) (by simp [Value.oneCell'])
                (by omega) (by unfold maxLen; omega) (by omega) (by simp; omega) (wr.heap.size + 1) (by simp) ?_; intro gg cap w2 hown2 hgrow hat hlt2))
          all_goals
            have HN := Lib.hid (marks_next HAT.out HMN.out hown2 hgrow)
            clear hgrow hat hlt2 hown2
            go_wp2
            go_roundw
            case rel => exact ⟨j + 1 + 1, by go_num, by omega, HN.out⟩
            case measure => simp [intOf]; omega
    · have HE : Hid (ReadsM wr u3 (R.marks l)) := Lib.hid (by
        have := readsM_own HAT.out.own
        rwa [List.take_of_length_le (by rw [HLL.out]; omega)] at this)
      have HBE := Lib.hid HAT.out.bel
      clear HAT
      go_wp2
      go_ret
      exact ⟨_, rfl, HE.out, HBE.out⟩
end Go.Proofs.Ytfhopgficckjkaa
