/-
  The walk of the law ManifestTells over any disk that keeps its contracts.
-/
import Derived.Test.YtmfhipjceeijmaaManHelp
namespace Go.Proofs.Ytmfhipjceeijmaa.A
open Go.RowKit
open D (Tx ReadsI i64B readsI_below dP)
attribute [local go_sem] ext_Bd ext_Bl ext_Bt toList_B add_B size_B get_Bt

theorem castL_mem {l : List Nat} {n : Int} (h : n ∈ castL l) : ∃ k ∈ l, n = (k : Int) := by
  unfold castL at h
  obtain ⟨k, hk, rfl⟩ := List.mem_map.1 h
  exact ⟨k, hk, rfl⟩
theorem right_bound {n : Nat} {l : List Nat} (h : right (n : Int) (castL l) = true) : ∀ k ∈ l, k ≤ 1099511627776 := fun k hk => by
  have := right_segs h (k : Int) (by unfold castL; exact List.mem_map.2 ⟨k, hk, rfl⟩)
  omega
theorem nil_reads (w : World) : ReadsI w (.slice none 0 0) [] := ⟨none, 0, rfl, fun i hi => by simp at hi⟩
theorem two_reads {w : World} {g : Nat} (h : w.heap[g]? = some (.cells #[.int .i64 2, .int .i64 5] 3 (0, 0))) : ReadsI w (.slice (some ⟨g, 0, none⟩) 2 2) [2, 5] := by
  refine ⟨some ⟨g, 0, none⟩, 2, rfl, fun i hi => ?_⟩
  match i, hi with
  | 0, _ => exact ⟨⟨by show (-9223372036854775808 : Int) ≤ 2; omega, by show (2 : Int) ≤ 9223372036854775807; omega⟩, g, 0, rfl, by rw [blkA h]; rfl⟩
  | 1, _ => exact ⟨⟨by show (-9223372036854775808 : Int) ≤ 5; omega, by show (5 : Int) ≤ 9223372036854775807; omega⟩, g, 0, rfl, by rw [blkA h]; rfl⟩
theorem load_right {s t : Tx} {e n : Nat} {l : List Nat} (h : loadD [⟨markN, t, 0⟩, ⟨fileN, s, 0⟩] = (e, n, l)) : (e = 0 ∧ right (n : Int) (castL l) = true) ∨ (e = 2 ∧ n = 0 ∧ l = []) := by
  rw [two_load] at h
  cases hs : loadL s with
  | none => rw [hs] at h; cases h; exact .inr ⟨rfl, rfl, rfl⟩
  | some x =>
    rw [hs] at h
    obtain ⟨m, k⟩ := x
    cases h
    exact .inl ⟨rfl, loadL_right hs⟩
theorem crash_len (ks : List Int) (l : List D.F) : (D.crash ks l).length = l.length := D.length_crash ks l
set_option maxHeartbeats 4000000 in
set_option maxRecDepth 100000 in
theorem tells_walk (C : D.DC) (s t : Tx) (z : Int) (w : World) (hs : s.length ≤ 9223372036854775807) (ht : t.length ≤ 9223372036854775807) (hz : i64B z) :
    Calls Try.prog 5 #[.string (B s), .string (B t), .int .i64 z] w fun x w' => x = .returned (.bool true) ∧ Below w.heap.size w w' := by
  obtain ⟨hz1, hz2⟩ := hz
  go_enter Try.func5, Try.ntmps5
  go_wp2_with fail
  refine (shown10_l C w).mono ?_
  rintro x w1 ⟨rfl, hb1⟩
  have HB1 := Lib.hid hb1
  clear hb1
  go_wp2_with fail
  refine (begun10_l C (bs := w.heap.size) 100000 w1 HB1.out.size (by omega) (by omega)).mono ?_
  rintro x w2 ⟨⟨p, m, S, rfl, hd, -, -, -⟩, hb2⟩
  have HB2 := Lib.hid (HB1.out.trans (hb2.mono HB1.out.size))
  have hal : Below w2.heap.size w2 (w2.alloc (.cells #[dP p, .pointer (some ⟨m, 0, none⟩)] 28)) := (Below.refl _ _).alloc (Nat.le_refl _) _
  have hnew := heap_alloc_new w2 (.cells #[dP p, .pointer (some ⟨m, 0, none⟩)] 28)
  have HO : Hid (OnA C w 100000 p w2.heap.size (w2.alloc (.cells #[dP p, .pointer (some ⟨m, 0, none⟩)] 28)) [] S) := Lib.hid ⟨C.below hd hal, by rw [blkA hnew]; rfl, fun h => by have := (C.low hd h).2; omega, HB2.out.trans (hal.mono HB2.out.size)⟩
  clear hd hb2 hal hnew HB1 HB2
  go_upto_region 3 with (fail)
  generalize w2.alloc (.cells #[dP p, .pointer (some ⟨m, 0, none⟩)] 28) = w3 at *
  generalize w2.heap.size = ga at *
  by_cases hl : 2000 < s.length
  · have hli : (2000 : Int) < (s.length : Int) := by omega
    go_wp2
    go_ret
    exact ⟨rfl, HO.out.bel⟩
  have hli : ¬ (2000 : Int) < (s.length : Int) := by omega
  by_cases hl2 : 2000 < t.length
  · have hli2 : (2000 : Int) < (t.length : Int) := by omega
    go_wp2
    go_ret
    exact ⟨rfl, HO.out.bel⟩
  have hli2 : ¬ (2000 : Int) < (t.length : Int) := by omega
  have hs2 : s.length ≤ 2000 := by omega
  have ht2 : t.length ≤ 2000 := by omega
  have hti := two_inv hs2 ht2
  have htf := two_facts hs2 ht2
  have HA1 := Lib.hid hti.1
  have HA2 := Lib.hid hti.2
  have HI1 := Lib.hid htf.1
  have HI2 := Lib.hid htf.2.1
  have HU2 := Lib.hid htf.2.2
  clear hti htf
  have c3 := HO.out.pa
  go_wp2_with fail
  refine (C.append fileN s 0 _ HO.out.at_ (D.inv_nil _) (by omega) (by simp [fileN]) (by omega) HA1.out).mono ?_
  rintro x w4 ⟨rfl, ⟨S4, hA4, hg4⟩, hb4⟩
  have HO4 := Lib.hid (HO.out.next hA4 hg4 hb4)
  clear hA4 hg4 hb4 c3 HO HA1
  have c4 := HO4.out.pa
  go_wp2_with fail
  refine (C.append markN t 0 _ HO4.out.at_ HI1.out (by omega) (by simp [markN]) (by omega) HA2.out).mono ?_
  rintro x w5 ⟨rfl, ⟨S5, hA5, hg5⟩, hb5⟩
  have HO5 := Lib.hid (HO4.out.next hA5 hg5 hb5)
  clear hA5 hg5 hb5 c4 HO4 HA2 HI1
  obtain ⟨⟨e, n, segs⟩, hld⟩ : ∃ q, loadD [⟨markN, t, 0⟩, ⟨fileN, s, 0⟩] = q := ⟨_, rfl⟩
  have HRT := Lib.hid (load_right hld)
  have HLD := Lib.hid hld
  obtain ⟨⟨a, k, b⟩, hep⟩ : ∃ q, epochD [⟨markN, t, 0⟩, ⟨fileN, s, 0⟩] = q := ⟨_, rfl⟩
  have HEP := Lib.hid hep
  have hal : a ≤ 274877906944 := by
    have := (marks_le (D.read markN [⟨markN, t, 0⟩, ⟨fileN, s, 0⟩]).1).1
    unfold epochD at hep
    rw [hep] at this
    exact this
  obtain ⟨⟨f, l6⟩, hrs⟩ : ∃ q, raiseD 100000 z [⟨markN, t, 0⟩, ⟨fileN, s, 0⟩] = q := ⟨_, rfl⟩
  have HRS := Lib.hid hrs
  have HI6 := Lib.hid (show D.Inv 100000 l6 by have := raise_inv (room := 100000) (z := z) HI2.out; rw [hrs] at this; exact this)
  have HU6 : Hid (D.used l6 ≤ 4014 ∧ l6.length ≤ 3) := Lib.hid (by
    have := used_raise (room := 100000) (z := z) HI2.out
    have h4 := HU2.out
    rw [hrs] at this
    dsimp only at this
    simp only [List.length_cons, List.length_nil] at this
    omega)
  have HOK : Hid (f = 0 → (epochD (D.crash [] l6)).1 = z.toNat ∧ (a : Int) ≤ z) := Lib.hid fun h0 => by
    subst h0
    have := tells_raise hrs []
    rw [hep] at this
    exact this
  have HZP : Hid (f = 0 → 1 ≤ z) := Lib.hid fun h0 => by
    subst h0
    exact (raise_ok hrs).1.1
  clear hld hep hrs HU2
  generalize [(⟨markN, t, 0⟩ : D.F), ⟨fileN, s, 0⟩] = l5 at *
  have c5 := HO5.out.pa
  go_wp2_with fail
  refine (Load_l C e n segs HO5.out.at_ HI2.out (by omega) HLD.out).mono ?_
  rintro x w6 ⟨⟨v, rfl, hown⟩, hb6⟩
  obtain ⟨va, vc, hvv, -⟩ := reads_own hown
  rw [intCells_len] at hvv
  subst hvv
  have hnew6 := heap_alloc_new w6 (.cells #[.int .i64 (n : Int), .slice va segs.length vc] 33)
  have hal6 : Below w6.heap.size w6 (w6.alloc (.cells #[.int .i64 (n : Int), .slice va segs.length vc] 33)) := (Below.refl _ _).alloc (Nat.le_refl _) _
  have HO7 := Lib.hid ((HO5.out.below hb6).below hal6)
  have HOW := Lib.hid (own_below hown hal6)
  have HN7 := Lib.hid hnew6
  clear hown hb6 hnew6 hal6 c5 HO5 HLD
  go_upto_region 8 with (fail)
  generalize w6.alloc (.cells #[.int .i64 (n : Int), .slice va segs.length vc] 33) = w7 at *
  generalize w6.heap.size = gm at *
  have c7 := HO7.out.pa
  go_wp2_with fail
  refine (Epoch_l C a k b HO7.out.at_ HI2.out (by omega) HEP.out).mono ?_
  rintro x w8 ⟨rfl, hb8⟩
  have HO8 := Lib.hid (HO7.out.below hb8)
  have HOW8 := Lib.hid (own_below HOW.out hb8)
  have HN8 := Lib.hid ((hb8.block gm (lt_of_block HN7.out)).trans HN7.out)
  clear hb8 c7 HO7 HOW HN7 HEP
  have d0 := blkA HN8.out 0
  have d1 := blkA HN8.out 1
  simp only [List.getElem?_toArray, List.getElem?_cons_zero, List.getElem?_cons_succ] at d0 d1
  have han : ¬ (a : Int) < 0 := by omega
  have haf : ¬ (274877906944 : Int) < (a : Int) := by omega
  go_upto_region 9 with (fail)
  go_cut [91] (fun x wx => x = .bool false ∧ Hid (OnA C w 100000 p ga wx l5 S5))
  case first =>
    rcases HRT.out with ⟨rfl, hr⟩ | ⟨rfl, rfl, rfl⟩
    · have HR := Lib.hid hr
      have HRI := Lib.hid (readsI_own HOW8.out (right_bound hr))
      have hcl := castL_len segs
      clear hr HRT
      go_wp2_with (go_at_call 17; refine (Right_l (n : Int) (castL segs) _ _ true HRI.out HR).mono ?_; rintro x w9 ⟨rfl, hb9⟩; have HO9 := Lib.hid (HO8.out.below hb9))
      go_meet
      exact ⟨by rw [decide_eq_false (show ¬ (a : Int) < 0 by omega), decide_eq_false (show ¬ (274877906944 : Int) < (a : Int) by omega)]; rfl, HO9⟩
    · clear HRT
      simp only [List.length_nil] at d1
      go_wp2
      go_meet
      exact ⟨by rw [decide_eq_false (show ¬ (a : Int) < 0 by omega), decide_eq_false (show ¬ (274877906944 : Int) < (a : Int) by omega)]; rfl, HO8⟩
  case rest =>
  obtain ⟨rfl, HO9⟩ := hcut
  clear HO8 HRT HOW8 HN8 d0 d1
  have c9 := HO9.out.pa
  go_wp2_with fail
  refine (Raise_l C z f l6 HO9.out.at_ HI2.out (by omega) HRS.out).mono ?_
  rintro x w10 ⟨rfl, ⟨S10, hA10, hg10⟩, hb10⟩
  have HO10 := Lib.hid (HO9.out.next hA10 hg10 hb10)
  clear hA10 hg10 hb10 c9 HO9 HRS HI2
  have c10 := HO10.out.pa
  go_wp2_with fail
  refine (C.crash [] (.slice none 0 0) HO10.out.at_ HI6.out (by omega) (fun w' _ => nil_reads w') (by simp)).mono ?_
  rintro x w11 ⟨rfl, ⟨S11, hA11, hg11⟩, hb11⟩
  have HO11 := Lib.hid (HO10.out.next hA11 hg11 hb11)
  have HI7 := Lib.hid (HI6.out.crash (ks := []))
  have HU7 : Hid (D.used (D.crash [] l6) ≤ 9000 ∧ (D.crash [] l6).length ≤ 30) := Lib.hid (by
    have h1 := D.used_crash [] l6
    have h2 := D.length_crash [] l6
    have := HU6.out
    omega)
  clear hA11 hg11 hb11 c10 HO10 HI6 HU6
  generalize D.crash [] l6 = l7 at *
  obtain ⟨⟨a2, k2, b2⟩, hep⟩ : ∃ q, epochD l7 = q := ⟨_, rfl⟩
  have HEP := Lib.hid hep
  have HOK2 : Hid (f = 0 → a2 = z.toNat ∧ (a : Int) ≤ z) := Lib.hid fun h => by have := HOK.out h; rw [hep] at this; exact this
  clear hep HOK
  have c11 := HO11.out.pa
  go_upto_region 13 with (fail)
  go_cut [116] (fun x wx => x = .bool false ∧ Hid (OnA C w 100000 p ga wx l7 S11))
  case first =>
    by_cases h0 : f = 0
    · have h1 := HOK2.out h0
      have h2 := HZP.out h0
      subst h0
      have hza : ¬ z < (a : Int) := by omega
      obtain ⟨zn, rfl⟩ : ∃ zn : Nat, z = (zn : Int) := ⟨z.toNat, by omega⟩
      have hzn : a2 = zn := by have := h1.1; omega
      subst hzn
      clear h1 h2 HOK2 HZP
      go_wp2_with (go_at_call 15; refine (Epoch_l C a2 k2 b2 HO11.out.at_ HI7.out (by omega) HEP.out).mono ?_; rintro x w12 ⟨rfl, hb12⟩; have HO12 := Lib.hid (HO11.out.below hb12))
      go_meet
      exact ⟨by rw [decide_eq_false (show ¬ a2 < a by omega)], HO12⟩
    · have hfi : ((f : Int) == 0) = false := beq_eq_false_iff_ne.2 (by omega)
      have hfn : ¬ (f : Int) = 0 := by omega
      clear HOK2 HZP
      go_wp2
      go_meet
      exact ⟨rfl, HO11⟩
  case rest =>
  obtain ⟨rfl, HO12⟩ := hcut
  clear HO11 HOK2 HZP HEP c11
  generalize hwc : wc = w12 at *
  clear hwc
  obtain ⟨l8, hsv, hld8⟩ := tells_save HI7.out HU7.out.1 HU7.out.2 []
  have HSV := Lib.hid hsv
  have HLD8 := Lib.hid hld8
  have HI8 := Lib.hid (show D.Inv 100000 l8 by have := save_inv (room := 100000) (next := 9) (segs := [2, 5]) HI7.out; rw [hsv] at this; exact this)
  clear hsv hld8 HU7
  have hal : Below w12.heap.size w12 (w12.alloc (.cells #[.int .i64 2, .int .i64 5] 3)) := (Below.refl _ _).alloc (Nat.le_refl _) _
  have hnew := heap_alloc_new w12 (.cells #[.int .i64 2, .int .i64 5] 3)
  have HO13 := Lib.hid (HO12.out.below hal)
  have HSG : Hid (¬ S11 w12.heap.size) := Lib.hid fun h => by have := (C.low HO12.out.at_ h).2; omega
  have HN13 := Lib.hid hnew
  have c12 := HO12.out.pa
  clear hal hnew
  go_wp2_with fail
  have HRD : Hid (∀ w', D.But S11 (w12.alloc (.cells #[.int .i64 2, .int .i64 5] 3)) w' → ReadsI w' (.slice (some ⟨w12.heap.size, 0, none⟩) 2 2) [2, 5]) := Lib.hid fun w' hb => two_reads ((hb.block _ (lt_of_block HN13.out) HSG.out).trans HN13.out)
  generalize w12.alloc (.cells #[.int .i64 2, .int .i64 5] 3) = w13 at *
  generalize w12.heap.size = g12 at *
  refine (Save_l C 9 [2, 5] _ 0 l8 HO13.out.at_ HI7.out (by omega) HRD.out HSV.out).mono ?_
  rintro x w14 ⟨rfl, ⟨S14, hA14, hg14⟩, hb14⟩
  have HO14 := Lib.hid (HO13.out.next hA14 hg14 hb14)
  clear hA14 hg14 hb14 c12 HO12 HO13 HSG HN13 HRD HSV HI7
  have c14 := HO14.out.pa
  go_wp2_with fail
  refine (C.crash [] (.slice none 0 0) HO14.out.at_ HI8.out (by omega) (fun w' _ => nil_reads w') (by simp)).mono ?_
  rintro x w15 ⟨rfl, ⟨S15, hA15, hg15⟩, hb15⟩
  have HO15 := Lib.hid (HO14.out.next hA15 hg15 hb15)
  have HI9 := Lib.hid (HI8.out.crash (ks := []))
  clear hA15 hg15 hb15 c14 HO14 HI8
  generalize D.crash [] l8 = l9 at *
  have c15 := HO15.out.pa
  go_wp2_with fail
  refine (Load_l C 0 9 [2, 5] HO15.out.at_ HI9.out (by omega) HLD8.out).mono ?_
  rintro x w16 ⟨⟨v, rfl, hown⟩, hb16⟩
  obtain ⟨va, vc, hvv, -⟩ := reads_own hown
  rw [intCells_len] at hvv
  simp only [List.length_cons, List.length_nil] at hvv
  subst hvv
  have hal : Below w16.heap.size w16 (w16.alloc (.cells #[.int .i64 ((9 : Nat) : Int), .slice va 2 vc] 33)) := (Below.refl _ _).alloc (Nat.le_refl _) _
  have HN17 := Lib.hid (heap_alloc_new w16 (.cells #[.int .i64 ((9 : Nat) : Int), .slice va 2 vc] 33))
  have HO17 := Lib.hid ((HO15.out.below hb16).below hal)
  have HOW17 := Lib.hid (own_below hown hal)
  clear hown hb16 hal c15 HO15 HLD8
  go_upto_region 19 with (fail)
  generalize w16.alloc (.cells #[.int .i64 ((9 : Nat) : Int), .slice va 2 vc] 33) = w17 at *
  generalize w16.heap.size = g17 at *
  have d0 := blkA HN17.out 0
  have d1 := blkA HN17.out 1
  simp only [List.getElem?_toArray, List.getElem?_cons_zero, List.getElem?_cons_succ] at d0 d1
  have hal : Below w17.heap.size w17 (w17.alloc (.cells #[.int .i64 2, .int .i64 5] 3)) := (Below.refl _ _).alloc (Nat.le_refl _) _
  have HB18 := Lib.hid (HO17.out.bel.trans (hal.mono HO17.out.bel.size))
  have HR1 : Hid (ReadsI (w17.alloc (.cells #[.int .i64 2, .int .i64 5] 3)) (.slice va 2 vc) [2, 5]) := Lib.hid (readsI_below (readsI_own HOW17.out (by simp)) hal)
  have HR2 := Lib.hid (two_reads (heap_alloc_new w17 (.cells #[.int .i64 2, .int .i64 5] 3)))
  clear hal
  go_wp2_with (go_at_call 13; refine (sameInts_l [2, 5] [2, 5] _ _ true _ HR1.out HR2.out (by simp) (Lib.hid rfl)).mono ?_; rintro x w19 ⟨rfl, hb19⟩; have HB19 := Lib.hid (HB18.out.trans (hb19.mono HB18.out.size)))
  go_ret
  exact ⟨rfl, HB19.out⟩
end Go.Proofs.Ytmfhipjceeijmaa.A
