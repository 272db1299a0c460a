/-
  Walks of the document's answer: Right, Follows, Marks.
-/
import Derived.Test.YtfhopgficckjkaaRecordRight
import Derived.Test.YtfhopgficckjkaaRecordMarks
import Derived.Deep.RegionHeld3
import Derived.Deep.AppendLies
namespace Go.Proofs.Ytfhopgficckjkaa
open Go.RowKit
attribute [local go_sem] ext_Bd ext_Bl ext_Bt toList_B add_B size_B get_Bt

set_option maxHeartbeats 1000000 in
set_option maxRecDepth 100000 in
theorem refRight6_at (e : R.En) (v : Value) (r : Bool) (w : World) (hv : ReadsE w v e.b.events) (hs : E.Small e.b) (H : Hid (R.right e = r)) :
    Calls Try.prog 15 #[enV e v] w fun x w' => x = .returned (.bool r) ∧ Below w.heap.size w w' := by
  obtain ⟨f, HF⟩ : ∃ n, Hid (E.fits e.b = n) := ⟨_, Lib.hid rfl⟩
  have HR : Hid (r = (decide (1 ≤ e.pos ∧ e.pos ≤ 274877906944) && (decide (1 ≤ e.epoch ∧ e.epoch ≤ 274877906944) && decide (f = 0)))) := Lib.hid (by rw [← H.out, ← HF.out]; exact right_parts e)
  clear H
  have HS := Lib.hid hs
  have HV := Lib.hid hv
  have hB : ∀ o, Below w.heap.size w (w.alloc o) := fun o => (Below.refl _ w).alloc (Nat.le_refl _) o
  obtain ⟨a, cap, rfl, _⟩ := hv
  clear hs
  obtain ⟨pos, ep, b⟩ := e
  dsimp only at *
  by_cases h1 : ¬ (1 ≤ pos)
  · have HE := Lib.hid (show r = false by rw [HR.out, decide_eq_false (fun h => h1 h.1)]; rfl)
    have h1d : decide (1 ≤ pos) = false := decide_eq_false h1
    clear h1
    go_enter Try.func15, Try.ntmps15
    go_wp2
    go_ret
    rw [HE.out]
    exact ⟨rfl, hB _⟩
  replace h1 := Decidable.of_not_not h1
  by_cases h2 : ¬ (pos ≤ 274877906944)
  · have HE := Lib.hid (show r = false by rw [HR.out, decide_eq_false (fun h => h2 h.2)]; rfl)
    have h2d : decide (pos ≤ 274877906944) = false := decide_eq_false h2
    clear h2
    go_enter Try.func15, Try.ntmps15
    go_wp2
    go_ret
    rw [HE.out]
    exact ⟨rfl, hB _⟩
  replace h2 := Decidable.of_not_not h2
  by_cases h3 : ¬ (1 ≤ ep)
  · have HE := Lib.hid (show r = false by rw [HR.out, decide_eq_false (p := 1 ≤ ep ∧ ep ≤ 274877906944) (fun h => h3 h.1)]; simp)
    have h3d : decide (1 ≤ ep) = false := decide_eq_false h3
    clear h3
    go_enter Try.func15, Try.ntmps15
    go_wp2
    go_ret
    rw [HE.out]
    exact ⟨rfl, hB _⟩
  replace h3 := Decidable.of_not_not h3
  by_cases h4 : ¬ (ep ≤ 274877906944)
  · have HE := Lib.hid (show r = false by rw [HR.out, decide_eq_false (p := 1 ≤ ep ∧ ep ≤ 274877906944) (fun h => h4 h.2)]; simp)
    have h4d : decide (ep ≤ 274877906944) = false := decide_eq_false h4
    clear h4
    go_enter Try.func15, Try.ntmps15
    go_wp2
    go_ret
    rw [HE.out]
    exact ⟨rfl, hB _⟩
  replace h4 := Decidable.of_not_not h4
  have HR2 : Hid (r = decide (f = 0)) := Lib.hid (by rw [HR.out, decide_eq_true ⟨h1, h2⟩, decide_eq_true ⟨h3, h4⟩]; rfl)
  go_enter Try.func15, Try.ntmps15
  go_wp2_with fail
  refine (refFits_at b _ f _ (readsE_below HV.out (hB _)) (by have := HS.out.1; omega) (by have := HS.out.2.1; omega) (fun e he => by have := (HS.out.2.2 e he).1; omega) HF).mono ?_
  rintro x w2 ⟨rfl, hb2⟩
  have hb := below_box hb2
  clear hb2
  by_cases h0 : f = 0
  · subst h0
    go_wp2
    go_ret
    rw [HR2.out]
    exact ⟨rfl, hb⟩
  · have hfi : ((f : Int) == 0) = false := beq_eq_false_iff_ne.2 (by omega)
    have HE := Lib.hid (show r = false by rw [HR2.out, decide_eq_false h0])
    clear h0
    go_wp2
    go_ret
    rw [HE.out]
    exact ⟨rfl, hb⟩

theorem follows_drop {l : List R.En} {k : Nat} (h : k < l.length) (p q : Int) : R.follows (l.drop k) p q = (R.right l[k] && (decide (l[k].pos = p + 1) && (decide (q ≤ l[k].epoch) && R.follows (l.drop (k + 1)) l[k].pos l[k].epoch))) := by
  rw [List.drop_eq_getElem_cons h, R.follows]

set_option maxHeartbeats 2000000 in
set_option maxRecDepth 100000 in
theorem refFollows_l (es : List EV) (v : Value) (p0 q0 : Int) (w : World) (hv : ReadsR w v es) (hl : es.length ≤ 1000) (hs : ∀ x ∈ es, E.Small x.1.b) (hp : i64B p0) :
    Calls Try.prog 21 #[v, .int .i64 p0, .int .i64 q0] w fun r w' => r = .returned (.bool (R.follows (ensOf es) p0 q0)) ∧ Below w.heap.size w w' := by
  obtain ⟨a, cap, rfl, hcp, _, hx⟩ := hv
  have HX := Lib.hid hx; clear hx
  have HSM := Lib.hid hs; clear hs
  obtain ⟨r, HR⟩ : ∃ r, Hid (R.follows (ensOf es) p0 q0 = r) := ⟨_, Lib.hid rfl⟩
  rw [HR.out]
  obtain ⟨l, HL⟩ : ∃ l, Hid (ensOf es = l) := ⟨_, Lib.hid rfl⟩
  have HLL := Lib.hid (show l.length = es.length by rw [← HL.out, ensOf_len])
  have HLG : Hid (∀ i (h : i < es.length), l[i]'(by rw [HLL.out]; exact h) = es[i].1) := Lib.hid fun i h => by
    have := HL.out; subst this; simp
  rw [HL.out] at HR
  clear HL
  have HP := Lib.hid hp; clear hp
  go_enter Try.func21, Try.ntmps21
  go_wp2
  go_loopw [1, 2, 7] (fun vp vq i wr => ∃ (k : Nat) (p q : Int), i = .int .i64 k ∧ vp = .int .i64 p ∧ vq = .int .i64 q ∧ k ≤ es.length ∧ i64B p ∧ R.follows (l.drop k) p q = r ∧ Below w.heap.size w wr) (fun _ _ i _ => es.length - (intOf i).toNat)
  case atStart => exact ⟨0, p0, q0, rfl, rfl, rfl, Nat.zero_le _, HP.out, HR.out, Below.refl _ _⟩
  case round =>
    obtain ⟨k, p, q, rfl, rfl, rfl, hk, hpb, hf, hbe⟩ := hrel
    have HF := Lib.hid hf
    have HBE := Lib.hid hbe
    clear hf hbe HR
    by_cases hlt : k < es.length
    · obtain ⟨hre, hpos, b1, o1, rfl, hat7⟩ := HX.out k hlt
      have hi1 : (k : Int) < (es.length : Int) := by omega
      have hst := follows_drop (l := l) (k := k) (by rw [HLL.out]; exact hlt) p q
      rw [HLG.out k hlt, HF.out] at hst
      have HST := Lib.hid hst
      have hre2 := readsE_below hre HBE.out
      have HRE := Lib.hid hre2
      have HSK := Lib.hid (HSM.out _ (List.getElem_mem hlt))
      have h7 := hat7.keep (below_keeps HBE.out)
      clear hst hat7 hre
      generalize es[k] = pe at *
      obtain ⟨e, u⟩ := pe
      dsimp only at *
      obtain ⟨ea, ec, rfl, _⟩ := hre2
      obtain ⟨c0, c1, c2, c3, c4, c5, c6⟩ := h7
      obtain ⟨rt, HRT⟩ : ∃ x, Hid (R.right e = x) := ⟨_, Lib.hid rfl⟩
      rw [HRT.out] at HST
      have HRB : Hid (rt = true → 1 ≤ e.pos ∧ e.pos ≤ 274877906944) := Lib.hid fun h => by
        have := R.right_iff.1 (HRT.out.trans h)
        exact ⟨this.1, this.2.1⟩
      go_wp2_with fail
      refine (refRight6_at e _ rt wr HRE.out HSK.out HRT).mono ?_
      rintro x w2 ⟨rfl, hb2⟩
      have d0 := below_keeps hb2 _ _ c0
      have d1 := below_keeps hb2 _ _ c1
      have HB2 := Lib.hid (HBE.out.trans (hb2.mono HBE.out.size))
      clear hb2 c0 c1 c2 c3 c4 c5 c6
      unfold i64B at hpb hpos
      obtain ⟨hpb1, hpb2⟩ := hpb
      obtain ⟨hps1, hps2⟩ := hpos
      obtain ⟨pos, ep, bb⟩ := e
      dsimp only at *
      cases rt
      · have HE := Lib.hid (show r = false by rw [HST.out]; rfl)
        go_wp2
        go_ret
        rw [HE.out]
        exact ⟨rfl, HB2.out⟩
      · obtain ⟨hpos1, hpos2⟩ := HRB.out rfl
        by_cases hpe : pos = p + 1
        · have hw : wrap64 (p + 1) = p + 1 := by unfold wrap64; omega
          have hpi : (pos != wrap64 (p + 1)) = false := by rw [hw]; simp [hpe]
          have hpj : (pos == wrap64 (p + 1)) = true := by rw [hw]; simp [hpe]
          have hpk : (pos == p + 1) = true := by simp [hpe]
          by_cases hqe : q ≤ ep
          · have HE := Lib.hid (show R.follows (l.drop (k + 1)) pos ep = r by rw [HST.out, decide_eq_true hpe, decide_eq_true hqe]; rfl)
            have hqj : ¬ ep < q := by omega
            clear hw hpe
            go_wp2
            go_roundw
            case rel => exact ⟨k + 1, pos, ep, by go_num, rfl, rfl, by omega, ⟨by omega, by omega⟩, HE.out, HB2.out⟩
            case measure => simp [intOf]; omega
          · have HE := Lib.hid (show r = false by rw [HST.out, decide_eq_false hqe]; simp)
            have hqj : ep < q := by omega
            clear hw hpe
            go_wp2
            go_ret
            rw [HE.out]
            exact ⟨rfl, HB2.out⟩
        · have hpi : (pos != wrap64 (p + 1)) = true := by
            have : pos ≠ wrap64 (p + 1) := by unfold wrap64; omega
            simpa using this
          have hpj : (pos == wrap64 (p + 1)) = false := by simpa using hpi
          have HE := Lib.hid (show r = false by rw [HST.out, decide_eq_false hpe]; simp)
          clear hpe
          go_wp2
          go_ret
          rw [HE.out]
          exact ⟨rfl, HB2.out⟩
    · have HE := Lib.hid (show r = true by rw [← HF.out, List.drop_of_length_le (by rw [HLL.out]; omega)]; rfl)
      go_wp2
      go_ret
      rw [HE.out]
      exact ⟨rfl, HBE.out⟩
end Go.Proofs.Ytfhopgficckjkaa
