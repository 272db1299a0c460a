/-
  The walk of the law SegmentKeeps over any segment package that keeps its contracts.
-/
import Derived.Test.YtpdnbpihkiijkaaGreatDoorBun29
import Derived.Test.YtpdnbpihkiijkaaGreatDoorBun30
import Derived.Test.YtpdnbpihkiijkaaGreatDoorBun26
namespace Go.Proofs.YtpdnbpihkiijkaaGreatDoor.G
open Go.RowKit
open D (dP)
attribute [local go_sem] ext_Bd ext_Bl ext_Bt toList_B add_B size_B get_Bt

theorem own_zero9 {w w1 : World} (h : w1.heap = (w.alloc (.cells #[] 55)).heap) : w1.ownsRow w.heap.size 55 7 (.slice (some ⟨w.heap.size, 0, none⟩) 0 0) 0 [] := by
  refine ⟨rfl, .inr ⟨w.heap.size, 0, #[], rfl, Nat.le_refl _, ?_, Nat.le_refl _, by unfold maxLen; omega, rfl, rfl⟩⟩
  rw [h]; exact heap_alloc_new w _
theorem right_ev {e : R.En} (h : R.right e = true) : e.b.events.length ≤ 1000000 := by
  have := (E.fits_inv (R.right_iff.1 h).2.2.2.2).2.1
  omega
theorem reads_one9 {w : World} {h : Nat} {z : Int} (hz : i64B z) (hh : w.heap[h]? = some (.cells #[.int .i64 z] 3 (0, 0))) : ReadsI w (.slice (some ⟨h, 0, none⟩) 1 1) [z] := by
  refine ⟨some ⟨h, 0, none⟩, 1, rfl, fun i hi => ?_⟩
  obtain rfl : i = 0 := by simpa using hi
  exact ⟨hz, h, 0, rfl, by simp [World.cell?, hh]⟩
abbrev Q4 (ga gb gc : Nat) (d v u : Value) (w : World) : Prop := w.cell? ⟨ga, 0, none⟩ = some d ∧ w.cell? ⟨gb, 1, none⟩ = some v ∧ w.cell? ⟨gc, 1, none⟩ = some u ∧ w.cell? ⟨gc, 2, none⟩ = some (.bool false)
theorem Q4_below {ga gb gc : Nat} {d v u : Value} {w w' : World} (h : Q4 ga gb gc d v u w) (hb : Below w.heap.size w w') : Q4 ga gb gc d v u w' :=
  ⟨below_keeps hb _ _ h.1, below_keeps hb _ _ h.2.1, below_keeps hb _ _ h.2.2.1, below_keeps hb _ _ h.2.2.2⟩
theorem Q4_but {ga gb gc : Nat} {d v u : Value} {w w' : World} {S : Nat → Prop} (h : Q4 ga gb gc d v u w) (hb : D.But S w w') (ha : ¬ S ga) (hg : ¬ S gb) (hc : ¬ S gc) : Q4 ga gb gc d v u w' :=
  ⟨cell_but h.1 hb ha, cell_but h.2.1 hb hg, cell_but h.2.2.1 hb hc, cell_but h.2.2.2 hb hc⟩
theorem grown_fresh {w a b : World} {v : Value} (h : Below w.heap.size w a) (hg : a.grownBy b v.ownBlock) (hv : ∀ k, v.ownBlock = some k → w.heap.size ≤ k) : Below w.heap.size w b := h.grown hg h.size hv
set_option maxHeartbeats 16000000 in
set_option maxRecDepth 100000 in
theorem keeps9_walk {C : D.DC} (Z : SC C) (es fs : List EV) (va vb : Value) (keep : Int) (w : World) (hke : i64B keep) (hA : ReadsR w va es) (hB : ReadsR w vb fs) :
    Calls Tryz.prog 5 #[va, vb, .int .i64 keep] w fun x w' => x = .returned (.bool true) ∧ Below w.heap.size w w' := by
  have HV := Lib.hid hA
  have HVB := Lib.hid hB
  have HKE := Lib.hid hke
  clear hke
  obtain ⟨aa, cap, hva, hle, hnone, hx0⟩ := hA
  subst hva
  have HX0 := Lib.hid hx0
  clear hx0
  obtain ⟨ab, capb, hvb, hleb, -, -⟩ := hB
  subst hvb
  go_enter Tryz.func5, Tryz.ntmps5
  go_wp2_with fail
  refine (shown9_l Z w).mono ?_
  rintro x w1 ⟨rfl, hb1⟩
  have HB1 := Lib.hid hb1
  clear hb1
  go_wp2_with fail
  refine (fits9_l es _ w1 (readsR_below HV.out HB1.out)).mono ?_
  rintro x w2 ⟨hok, hb2⟩
  have HB2 := Lib.hid (HB1.out.trans (hb2.mono HB1.out.size))
  have HOK : Hid (x = .returned (.bool true) → LightAll es) := Lib.hid fun h => by
    rcases hok with h1 | ⟨-, h2⟩
    · rw [h] at h1; cases h1
    · exact h2
  obtain ⟨ok, rfl⟩ : ∃ ok, x = .returned (.bool ok) := by rcases hok with h | ⟨h, -⟩ <;> exact ⟨_, h⟩
  clear hok hb2 HB1
  go_wp2_with fail
  refine (fits9_l fs _ w2 (readsR_below HVB.out HB2.out)).mono ?_
  rintro x w2b ⟨hok, hb2⟩
  have HB2b := Lib.hid (HB2.out.trans (hb2.mono HB2.out.size))
  have HOKB : Hid (x = .returned (.bool true) → LightAll fs) := Lib.hid fun h => by
    rcases hok with h1 | ⟨-, h2⟩
    · rw [h] at h1; cases h1
    · exact h2
  obtain ⟨okb, rfl⟩ : ∃ ok, x = .returned (.bool ok) := by rcases hok with h | ⟨h, -⟩ <;> exact ⟨_, h⟩
  clear hok hb2 HB2
  go_wp2_with fail
  refine (begun9_l C (bs := w.heap.size) 1048576 w2b HB2b.out.size (by omega) (by omega)).mono ?_
  rintro x w3 ⟨⟨p, m, S, rfl, hd, -, -, -⟩, hb3⟩
  have HB3 := Lib.hid (HB2b.out.trans (hb3.mono HB2b.out.size))
  have hal3 : Below w3.heap.size w3 (w3.alloc (.cells #[dP p, .pointer (some ⟨m, 0, none⟩)] 28)) := (Below.refl _ _).alloc (Nat.le_refl _) _
  have hnew3 := heap_alloc_new w3 (.cells #[dP p, .pointer (some ⟨m, 0, none⟩)] 28)
  have HS4 : Hid (OneAt C w p w3.heap.size (w3.alloc (.cells #[dP p, .pointer (some ⟨m, 0, none⟩)] 28)) [] S) := Lib.hid ⟨C.below hd hal3, by rw [blk9 hnew3]; rfl, fun h => by have := (C.low hd h).2; omega, HB3.out.trans (hal3.mono HB3.out.size)⟩
  clear hd hb3 HB2b hal3 hnew3 HB3
  cases ok
  · go_wp2
    go_ret
    exact ⟨rfl, HS4.out.bel⟩
  cases okb
  · go_wp2
    go_ret
    exact ⟨rfl, HS4.out.bel⟩
  have HLI := Lib.hid (HOK.out rfl)
  have HLB := Lib.hid (HOKB.out rfl)
  have h40 : es.length ≤ 40 := HLI.out.1
  have hb40 : fs.length ≤ 40 := HLB.out.1
  clear HOK HOKB
  go_upto_if 52 with (fail)
  generalize w3.alloc (.cells #[dP p, .pointer (some ⟨m, 0, none⟩)] 28) = w4 at *
  generalize w3.heap.size = ga at *
  obtain ⟨f, HF⟩ : ∃ f, Hid (f = firstZ (ensOf es)) := ⟨_, Lib.hid rfl⟩
  have hfb : i64B f := by
    rw [HF.out]
    cases es with
    | nil => exact ⟨by decide, by decide⟩
    | cons e l => exact (HX0.out 0 (by simp)).2.1
  go_cut [12] (fun x wx => x = .int .i64 f ∧ w4 = wx)
  case first =>
    by_cases h0 : es.length = 0
    · have hz : es = [] := List.eq_nil_of_length_eq_zero h0
      have hf1 : f = 1 := by rw [HF.out, hz]; rfl
      have h0i : ¬ (0 : Int) < (es.length : Int) := by omega
      clear hz h0
      go_wp2
      go_meet
      exact ⟨int_eq hf1.symm, rfl⟩
    · have h0i : (0 : Int) < (es.length : Int) := by omega
      obtain ⟨-, -, b, off, hab, h7⟩ := HX0.out 0 (by omega)
      subst hab
      have hf1 : f = (es[0]'(by omega)).1.pos := by
        rw [HF.out]
        cases es with
        | nil => exact absurd rfl h0
        | cons e l => rfl
      have z0 := below_keeps HS4.out.bel _ _ h7.1
      rw [Nat.zero_mul, Nat.add_zero, ← hf1] at z0
      clear h7 hf1
      go_wp2
      go_meet
      exact ⟨rfl, rfl⟩
  case rest =>
  obtain ⟨rfl, rfl⟩ := hcut
  have HRA : Hid (∀ w', Below w.heap.size w w' → ReadsR w' (.slice aa es.length cap) es) := Lib.hid fun w' h => readsR_below HV.out h
  have hp4 := HS4.out.pa
  by_cases hfr : ¬ (1 ≤ f ∧ f ≤ 274877906944)
  · go_wp2_with fail
    refine (Z.create 1 f 1 _ HS4.out.at_ (D.inv_nil _) (by decide) Named.nil (by omega) (by omega) hfb (create_arg (by unfold far; omega))).mono ?_
    rintro x w7 ⟨rfl, -, hb7⟩
    have HB7 : Hid (Below w.heap.size w w7) := Lib.hid (but_low HS4.out.bel hb7 HS4.out.lo)
    clear hb7
    go_wp2
    go_ret
    exact ⟨rfl, HB7.out⟩
  obtain ⟨n, HFN⟩ : ∃ n : Nat, Hid (f = (n : Int) ∧ 1 ≤ n ∧ n ≤ far) := ⟨f.toNat, Lib.hid ⟨by omega, by omega, by unfold far; omega⟩⟩
  have hn1 := HFN.out.2.1
  have hn2 := HFN.out.2.2
  have hfn := HFN.out.1
  clear hfr
  have HCR := Lib.hid (law_create (j := 1) (by omega) (by omega) hn1 hn2)
  rw [← hfn] at HCR
  clear hfn
  have HSM := Lib.hid (light_of HLI.out)
  have HSMB := Lib.hid (light_of HLB.out)
  go_wp2_with fail
  refine (Z.create 1 f 0 _ HS4.out.at_ (D.inv_nil _) (by decide) Named.nil (by omega) (by omega) hfb HCR.out).mono ?_
  rintro x w5 ⟨rfl, ⟨S5, hd5, hg5⟩, hb5⟩
  have HS5 := Lib.hid (HS4.out.next hd5 hg5 hb5)
  have HI5 := Lib.hid (inv_seg (nm := (nameS ((1 : Nat) : Int))) (n := n) (es := []) hn2 (fun _ h => by cases h) (by simp))
  clear hd5 hg5 hb5 HS4 hp4
  have hp5 := HS5.out.pa
  have HR5 : Hid (∀ w', D.But S5 w5 w' → ReadsR w' (.slice aa es.length cap) es) := Lib.hid fun w' hb => HRA.out _ (but_low HS5.out.bel hb HS5.out.lo)
  by_cases hfo : R.follows (ensOf es) ((n : Int) - 1) 0 = true
  case neg =>
    have HG := Lib.hid (law_gap (j := 1) hn1 hn2 (by simpa using hfo))
    clear hfo
    go_wp2_with fail
    refine (Z.add 1 es _ 11 _ HS5.out.at_ HI5.out (by decide) (named_one (by omega) (by omega) _) (by omega) (by omega) HR5.out (by omega) HSM.out HG.out).mono ?_
    rintro x w8 ⟨rfl, -, hb8⟩
    have HB8 : Hid (Below w.heap.size w w8) := Lib.hid (but_low HS5.out.bel hb8 HS5.out.lo)
    clear hb8
    go_wp2
    go_ret
    exact ⟨rfl, HB8.out⟩
  have HFO := Lib.hid hfo
  clear hfo
  have HAD := Lib.hid (law_add (j := 1) (a := []) (by omega) (by omega) hn1 hn2 HFO.out (by rw [List.nil_append, ensOf_len]; exact h40))
  rw [List.nil_append] at HAD
  go_wp2_with fail
  refine (Z.add 1 es _ 0 _ HS5.out.at_ HI5.out (by decide) (named_one (by omega) (by omega) _) (by omega) (by omega) HR5.out (by omega) HSM.out HAD.out).mono ?_
  rintro x w6 ⟨rfl, ⟨S6, hd6, hg6⟩, hb6⟩
  have HS6 := Lib.hid (HS5.out.next hd6 hg6 hb6)
  have HI6 := Lib.hid (inv_seg (nm := sg1) hn2 (follows_all HFO.out) (by rw [ensOf_len]; exact h40))
  have HN6 := Lib.hid (named_one (n := 1) (by omega) (by omega) (segB n (ensOf es)))
  rw [name_sg1] at HS6 HN6
  have HAL : Hid ((segB n (ensOf es)).length ≤ 240000) := Lib.hid (seg80 hn2 (follows_all HFO.out) (by rw [ensOf_len]; omega))
  clear hd6 hg6 hb6 HS5 hp5 HR5 HAD HI5 HCR
  have HC2 := Lib.hid (two_create hn1 hn2 HAL.out)
  have hfn := HFN.out.1
  rw [← hfn] at HC2
  clear hfn
  have HIc := Lib.hid (two_inv (room := room20) (d := segB n (ensOf es)) (b := segB n []) (y := (segB n (ensOf es)).length) (by have := HAL.out; have := seg80 (es := []) hn2 (fun _ h => by cases h) (by simp); unfold room20; omega) (Nat.le_refl _))
  have hp6 := HS6.out.pa
  have HS6d := Lib.hid HS6.out.drew
  have HEB : Hid (ensOf (es ++ fs) = ensOf es ++ ensOf fs) := Lib.hid List.map_append
  have HSA : Hid (∀ x ∈ es ++ fs, E.Small x.1.b) := Lib.hid fun x hx => by
    rcases List.mem_append.1 hx with h | h
    · exact HSM.out x h
    · exact HSMB.out x h
  have hl80 : (es ++ fs).length ≤ 80 := by rw [List.length_append]; omega
  by_cases hfa : R.follows (ensOf (es ++ fs)) ((n : Int) - 1) 0 = true
  case neg =>
    have HG2 := Lib.hid (two_gap (a := segB n (ensOf es)) hn1 hn2 (Bool.eq_false_iff.2 hfa))
    clear hfa
    go_upto_region 12 with (fail)
    refine wp_region_held_drew (S := fun w' => w'.cell? ⟨ga, 0, none⟩ = some (dP p)) (by kernel_rfl) ?_ (fun hHeld => ?_)
    · exact hp6
    generalize w6.drew = w9 at *
    clear HS6 hp6
    refine take_wanted (i := 0) (v := ?_) rfl (by kernel_rfl) (by kernel_rfl) (by kernel_rfl) (fun _ _ _ h => h) (by rfl) ?_ (by assumption) ?_
    rotate_left
    · intro w hSw
      (try dsimp only at hSw)
      go_simp
      (try with_reducible rfl)
    simp only [Act.put, List.setIfInBounds_toArray, List.set_cons_zero, List.set_cons_succ]
    refine take_wanted (i := 1) (v := ?_) rfl (by kernel_rfl) (by kernel_rfl) (by kernel_rfl) (fun _ _ _ h => h) (by rfl) ?_ (by assumption) ?_
    rotate_left
    · intro w hSw
      (try dsimp only at hSw)
      go_simp
      (try with_reducible rfl)
    simp only [Act.put, List.setIfInBounds_toArray, List.set_cons_zero, List.set_cons_succ]
    refine take_wanted (i := 2) (v := ?_) rfl (by kernel_rfl) (by kernel_rfl) (by kernel_rfl) (fun _ _ _ h => h) (by rfl) ?_ (by assumption) ?_
    rotate_left
    · intro w hSw
      (try dsimp only at hSw)
      go_simp
      (try with_reducible rfl)
    simp only [Act.put, List.setIfInBounds_toArray, List.set_cons_zero, List.set_cons_succ]
    refine take_only (i := 3) (by kernel_rfl) rfl (by rfl) (fun K hK => ?_)
    go_simp
    go_at_call 23
    refine (Z.create 2 f 0 _ HS6d.out.at_ HI6.out (by decide) HN6.out (by omega) (by omega) hfb HC2.out).mono ?_
    rintro x w10 ⟨rfl, ⟨S10, hd10, hg10⟩, hb10⟩
    refine hK.out _ _ ?_ (fun hHeld => ?_)
    · exact (HS6d.out.next hd10 hg10 hb10).pa
    clear hK K
    have HS10 := Lib.hid (HS6d.out.next hd10 hg10 hb10)
    clear hd10 hg10 hb10 HS6d
    refine take_wanted (i := 4) (v := ?_) rfl (by kernel_rfl) (by kernel_rfl) (by kernel_rfl) (fun _ _ _ h => h) (by rfl) ?_ (by assumption) ?_
    rotate_left
    · intro w hSw
      (try dsimp only at hSw)
      go_simp
      (try with_reducible rfl)
    simp only [Act.put, List.setIfInBounds_toArray, List.set_cons_zero, List.set_cons_succ]
    refine take_wanted (i := 5) (v := ?_) rfl (by kernel_rfl) (by kernel_rfl) (by kernel_rfl) (fun _ _ _ h => h) (by rfl) ?_ (by assumption) ?_
    rotate_left
    · intro w hSw
      (try dsimp only at hSw)
      go_simp
      (try with_reducible rfl)
    simp only [Act.put, List.setIfInBounds_toArray, List.set_cons_zero, List.set_cons_succ]
    refine take_wanted (i := 6) (v := ?_) rfl (by kernel_rfl) (by kernel_rfl) (by kernel_rfl) (fun _ _ _ h => h) (by rfl) ?_ (by assumption) ?_
    rotate_left
    · intro w hSw
      (try dsimp only at hSw)
      go_simp
      (try with_reducible rfl)
    simp only [Act.put, List.setIfInBounds_toArray, List.set_cons_zero, List.set_cons_succ]
    refine take_wanted (i := 7) (v := ?_) rfl (by kernel_rfl) (by kernel_rfl) (by kernel_rfl) (fun _ _ _ h => h) (by rfl) ?_ (by assumption) ?_
    rotate_left
    · intro w hSw
      (try dsimp only at hSw)
      go_simp
      (try with_reducible rfl)
    simp only [Act.put, List.setIfInBounds_toArray, List.set_cons_zero, List.set_cons_succ]
    refine take_wanted (i := 9) (v := ?_) rfl (by kernel_rfl) (by kernel_rfl) (by kernel_rfl) (fun _ _ _ h => h) (by rfl) ?_ (by assumption) ?_
    rotate_left
    · intro w hSw
      (try dsimp only at hSw)
      go_simp
      (try with_reducible rfl)
    simp only [Act.put, List.setIfInBounds_toArray, List.set_cons_zero, List.set_cons_succ]
    refine take_wanted (i := 11) (v := ?_) rfl (by kernel_rfl) (by kernel_rfl) (by kernel_rfl) (fun _ _ _ h => h) (by rfl) ?_ (by assumption) ?_
    rotate_left
    · intro w hSw
      (try dsimp only at hSw)
      go_simp
      (try with_reducible rfl)
    simp only [Act.put, List.setIfInBounds_toArray, List.set_cons_zero, List.set_cons_succ]
    refine take_only (i := 8) (by kernel_rfl) rfl (by rfl) (fun K hK => ?_)
    go_simp
    refine hK.out _ _ ?_ (fun hHeld => ?_)
    · exact below_keeps ((Below.refl w10.heap.size w10).alloc (Nat.le_refl _) _) _ _ hHeld
    clear hK K
    have hb11 : Below w10.heap.size w10 (w10.alloc (.cells #[] 55)) := (Below.refl _ _).alloc (Nat.le_refl _) _
    have ho0 := own_zero9 (w := w10) (w1 := w10.alloc (.cells #[] 55)) rfl
    have hbw11 := HS10.out.bel.trans (hb11.mono HS10.out.bel.size)
    refine take_only (i := 10) (by kernel_rfl) rfl (by rfl) (fun K hK => ?_)
    refine run_entries w10.heap.size _ 0 [] ho0 aa es.length cap es (readsR_below HV.out hbw11) rfl (by omega) hb11.size (.tmp 77) (.tmp 78) (by rfl) (by rfl) (by rfl) ?_
    rintro v1 w12 hown1 hgr1
    refine hK.out _ _ ?_ (fun hHeld => ?_)
    · exact below_keeps (grown_fresh hb11 hgr1 (fun k hk => (ho0.lt k hk).1)) _ _ HS10.out.pa
    clear hK K
    have hb12 := grown_fresh hb11 hgr1 (fun k hk => (ho0.lt k hk).1)
    have hbw12 := HS10.out.bel.trans (hb12.mono HS10.out.bel.size)
    clear hgr1 ho0 hbw11 hb11
    refine take_only (i := 12) (by kernel_rfl) rfl (by rfl) (fun K hK => ?_)
    refine run_entries w10.heap.size _ _ _ hown1 ab fs.length capb fs (readsR_below HVB.out hbw12) rfl (by omega) hb12.size (.tmp 79) (.tmp 80) (by rfl) (by rfl) (by rfl) ?_
    rintro v2 w13 hown2 hgr2
    refine hK.out _ _ ?_ (fun hHeld => ?_)
    · exact below_keeps (grown_fresh hb12 hgr2 (fun k hk => (hown1.lt k hk).1)) _ _ HS10.out.pa
    clear hK K
    have hb13 := grown_fresh hb12 hgr2 (fun k hk => (hown1.lt k hk).1)
    clear hgr2 hown1 hb12 hbw12
    have HS13 := Lib.hid (HS10.out.below hb13)
    have HOW := Lib.hid hown2
    have HLO13 : Hid (∀ k, w10.heap.size ≤ k → ¬ S10 k) := Lib.hid fun k hk hs => by have := (C.low HS10.out.at_ hs).2; omega
    clear hown2 hb13 HS10
    have HRJ : Hid (∀ w', D.But S10 w13 w' → ReadsR w' v2 (es ++ fs)) := Lib.hid fun w' hb => reads_joined HV.out HVB.out (but_low HS13.out.bel hb HS13.out.lo) (own_but HOW.out hb HLO13.out)
    have HAA := Lib.hid (Z.add 2 (es ++ fs) v2 11 _ HS13.out.at_ HIc.out (by decide) (two_named _ _ _) (by omega) (by omega) HRJ.out (by omega) HSA.out HG2.out)
    refine take_only (i := 13) (by kernel_rfl) rfl (by rfl) (fun K hK => ?_)
    go_simp
    go_at_call 24
    refine (HAA.out).mono ?_
    rintro x w14 ⟨rfl, ⟨S14, hd14, hg14⟩, hb14⟩
    refine hK.out _ _ ?_ (fun hHeld => ?_)
    · exact (HS13.out.next hd14 hg14 hb14).pa
    clear hK K
    have HS14 := Lib.hid (HS13.out.next hd14 hg14 hb14)
    clear hd14 hg14 hb14 HS13 HAA HRJ HOW HLO13
    refine take_wanted (i := 14) (v := ?_) rfl (by kernel_rfl) (by kernel_rfl) (by kernel_rfl) (fun _ _ _ h => h) (by rfl) ?_ (by assumption) ?_
    rotate_left
    · intro w hSw
      (try dsimp only at hSw)
      go_simp
      (try with_reducible rfl)
    simp only [Act.put, List.setIfInBounds_toArray, List.set_cons_zero, List.set_cons_succ]
    refine take_wanted (i := 15) (v := ?_) rfl (by kernel_rfl) (by kernel_rfl) (by kernel_rfl) (fun _ _ _ h => h) (by rfl) ?_ (by assumption) ?_
    rotate_left
    · intro w hSw
      (try dsimp only at hSw)
      go_simp
      (try with_reducible rfl)
    simp only [Act.put, List.setIfInBounds_toArray, List.set_cons_zero, List.set_cons_succ]
    refine wpAnyH_done (by kernel_rfl) ?_ _
    go_wp2
    go_ret
    exact ⟨rfl, HS14.out.bel⟩
  have HFA := Lib.hid hfa
  clear hfa
  have HT2 := Lib.hid (two_add (a := segB n (ensOf es)) hn1 hn2 HAL.out HFA.out (by rw [ensOf_len]; exact hl80))
  go_upto_region 12 with (fail)
  refine wp_region_held_drew (S := fun w' => w'.cell? ⟨ga, 0, none⟩ = some (dP p)) (by kernel_rfl) ?_ (fun hHeld => ?_)
  · exact hp6
  generalize w6.drew = w9 at *
  clear HS6 hp6
  refine take_wanted (i := 0) (v := ?_) rfl (by kernel_rfl) (by kernel_rfl) (by kernel_rfl) (fun _ _ _ h => h) (by rfl) ?_ (by assumption) ?_
  rotate_left
  · intro w hSw
    (try dsimp only at hSw)
    go_simp
    (try with_reducible rfl)
  simp only [Act.put, List.setIfInBounds_toArray, List.set_cons_zero, List.set_cons_succ]
  refine take_wanted (i := 1) (v := ?_) rfl (by kernel_rfl) (by kernel_rfl) (by kernel_rfl) (fun _ _ _ h => h) (by rfl) ?_ (by assumption) ?_
  rotate_left
  · intro w hSw
    (try dsimp only at hSw)
    go_simp
    (try with_reducible rfl)
  simp only [Act.put, List.setIfInBounds_toArray, List.set_cons_zero, List.set_cons_succ]
  refine take_wanted (i := 2) (v := ?_) rfl (by kernel_rfl) (by kernel_rfl) (by kernel_rfl) (fun _ _ _ h => h) (by rfl) ?_ (by assumption) ?_
  rotate_left
  · intro w hSw
    (try dsimp only at hSw)
    go_simp
    (try with_reducible rfl)
  simp only [Act.put, List.setIfInBounds_toArray, List.set_cons_zero, List.set_cons_succ]
  refine take_only (i := 3) (by kernel_rfl) rfl (by rfl) (fun K hK => ?_)
  go_simp
  go_at_call 23
  refine (Z.create 2 f 0 _ HS6d.out.at_ HI6.out (by decide) HN6.out (by omega) (by omega) hfb HC2.out).mono ?_
  rintro x w10 ⟨rfl, ⟨S10, hd10, hg10⟩, hb10⟩
  refine hK.out _ _ ?_ (fun hHeld => ?_)
  · exact (HS6d.out.next hd10 hg10 hb10).pa
  clear hK K
  have HS10 := Lib.hid (HS6d.out.next hd10 hg10 hb10)
  clear hd10 hg10 hb10 HS6d
  refine take_wanted (i := 4) (v := ?_) rfl (by kernel_rfl) (by kernel_rfl) (by kernel_rfl) (fun _ _ _ h => h) (by rfl) ?_ (by assumption) ?_
  rotate_left
  · intro w hSw
    (try dsimp only at hSw)
    go_simp
    (try with_reducible rfl)
  simp only [Act.put, List.setIfInBounds_toArray, List.set_cons_zero, List.set_cons_succ]
  refine take_wanted (i := 5) (v := ?_) rfl (by kernel_rfl) (by kernel_rfl) (by kernel_rfl) (fun _ _ _ h => h) (by rfl) ?_ (by assumption) ?_
  rotate_left
  · intro w hSw
    (try dsimp only at hSw)
    go_simp
    (try with_reducible rfl)
  simp only [Act.put, List.setIfInBounds_toArray, List.set_cons_zero, List.set_cons_succ]
  refine take_wanted (i := 6) (v := ?_) rfl (by kernel_rfl) (by kernel_rfl) (by kernel_rfl) (fun _ _ _ h => h) (by rfl) ?_ (by assumption) ?_
  rotate_left
  · intro w hSw
    (try dsimp only at hSw)
    go_simp
    (try with_reducible rfl)
  simp only [Act.put, List.setIfInBounds_toArray, List.set_cons_zero, List.set_cons_succ]
  refine take_wanted (i := 7) (v := ?_) rfl (by kernel_rfl) (by kernel_rfl) (by kernel_rfl) (fun _ _ _ h => h) (by rfl) ?_ (by assumption) ?_
  rotate_left
  · intro w hSw
    (try dsimp only at hSw)
    go_simp
    (try with_reducible rfl)
  simp only [Act.put, List.setIfInBounds_toArray, List.set_cons_zero, List.set_cons_succ]
  refine take_wanted (i := 9) (v := ?_) rfl (by kernel_rfl) (by kernel_rfl) (by kernel_rfl) (fun _ _ _ h => h) (by rfl) ?_ (by assumption) ?_
  rotate_left
  · intro w hSw
    (try dsimp only at hSw)
    go_simp
    (try with_reducible rfl)
  simp only [Act.put, List.setIfInBounds_toArray, List.set_cons_zero, List.set_cons_succ]
  refine take_wanted (i := 11) (v := ?_) rfl (by kernel_rfl) (by kernel_rfl) (by kernel_rfl) (fun _ _ _ h => h) (by rfl) ?_ (by assumption) ?_
  rotate_left
  · intro w hSw
    (try dsimp only at hSw)
    go_simp
    (try with_reducible rfl)
  simp only [Act.put, List.setIfInBounds_toArray, List.set_cons_zero, List.set_cons_succ]
  refine take_only (i := 8) (by kernel_rfl) rfl (by rfl) (fun K hK => ?_)
  go_simp
  refine hK.out _ _ ?_ (fun hHeld => ?_)
  · exact below_keeps ((Below.refl w10.heap.size w10).alloc (Nat.le_refl _) _) _ _ hHeld
  clear hK K
  have hb11 : Below w10.heap.size w10 (w10.alloc (.cells #[] 55)) := (Below.refl _ _).alloc (Nat.le_refl _) _
  have ho0 := own_zero9 (w := w10) (w1 := w10.alloc (.cells #[] 55)) rfl
  have hbw11 := HS10.out.bel.trans (hb11.mono HS10.out.bel.size)
  refine take_only (i := 10) (by kernel_rfl) rfl (by rfl) (fun K hK => ?_)
  refine run_entries w10.heap.size _ 0 [] ho0 aa es.length cap es (readsR_below HV.out hbw11) rfl (by omega) hb11.size (.tmp 77) (.tmp 78) (by rfl) (by rfl) (by rfl) ?_
  rintro v1 w12 hown1 hgr1
  refine hK.out _ _ ?_ (fun hHeld => ?_)
  · exact below_keeps (grown_fresh hb11 hgr1 (fun k hk => (ho0.lt k hk).1)) _ _ HS10.out.pa
  clear hK K
  have hb12 := grown_fresh hb11 hgr1 (fun k hk => (ho0.lt k hk).1)
  have hbw12 := HS10.out.bel.trans (hb12.mono HS10.out.bel.size)
  clear hgr1 ho0 hbw11 hb11
  refine take_only (i := 12) (by kernel_rfl) rfl (by rfl) (fun K hK => ?_)
  refine run_entries w10.heap.size _ _ _ hown1 ab fs.length capb fs (readsR_below HVB.out hbw12) rfl (by omega) hb12.size (.tmp 79) (.tmp 80) (by rfl) (by rfl) (by rfl) ?_
  rintro v2 w13 hown2 hgr2
  refine hK.out _ _ ?_ (fun hHeld => ?_)
  · exact below_keeps (grown_fresh hb12 hgr2 (fun k hk => (hown1.lt k hk).1)) _ _ HS10.out.pa
  clear hK K
  have hb13 := grown_fresh hb12 hgr2 (fun k hk => (hown1.lt k hk).1)
  clear hgr2 hown1 hb12 hbw12
  have HS13 := Lib.hid (HS10.out.below hb13)
  have HOW := Lib.hid hown2
  have HLO13 : Hid (∀ k, w10.heap.size ≤ k → ¬ S10 k) := Lib.hid fun k hk hs => by have := (C.low HS10.out.at_ hs).2; omega
  clear hown2 hb13 HS10
  have HRJ : Hid (∀ w', D.But S10 w13 w' → ReadsR w' v2 (es ++ fs)) := Lib.hid fun w' hb => reads_joined HV.out HVB.out (but_low HS13.out.bel hb HS13.out.lo) (own_but HOW.out hb HLO13.out)
  have HAA := Lib.hid (Z.add 2 (es ++ fs) v2 0 _ HS13.out.at_ HIc.out (by decide) (two_named _ _ _) (by omega) (by omega) HRJ.out (by omega) HSA.out HT2.out)
  refine take_only (i := 13) (by kernel_rfl) rfl (by rfl) (fun K hK => ?_)
  go_simp
  go_at_call 24
  refine (HAA.out).mono ?_
  rintro x w14 ⟨rfl, ⟨S14, hd14, hg14⟩, hb14⟩
  refine hK.out _ _ ?_ (fun hHeld => ?_)
  · exact (HS13.out.next hd14 hg14 hb14).pa
  clear hK K
  have HS14 := Lib.hid (HS13.out.next hd14 hg14 hb14)
  clear hd14 hg14 hb14 HS13 HAA HRJ HOW HLO13
  refine take_wanted (i := 14) (v := ?_) rfl (by kernel_rfl) (by kernel_rfl) (by kernel_rfl) (fun _ _ _ h => h) (by rfl) ?_ (by assumption) ?_
  rotate_left
  · intro w hSw
    (try dsimp only at hSw)
    go_simp
    (try with_reducible rfl)
  simp only [Act.put, List.setIfInBounds_toArray, List.set_cons_zero, List.set_cons_succ]
  refine take_wanted (i := 15) (v := ?_) rfl (by kernel_rfl) (by kernel_rfl) (by kernel_rfl) (fun _ _ _ h => h) (by rfl) ?_ (by assumption) ?_
  rotate_left
  · intro w hSw
    (try dsimp only at hSw)
    go_simp
    (try with_reducible rfl)
  simp only [Act.put, List.setIfInBounds_toArray, List.set_cons_zero, List.set_cons_succ]
  refine wpAnyH_done (by kernel_rfl) ?_ _
  have HAB : Hid (segB n (ensOf (es ++ fs)) = segB n (ensOf es) ++ F.frames ((ensOf fs).map pay)) := Lib.hid (by rw [HEB.out, segB_append])
  have HBL : Hid ((segB n (ensOf (es ++ fs))).length ≤ 240000) := Lib.hid (seg80 hn2 (follows_all HFA.out) (by rw [ensOf_len]; exact hl80))
  have HLE : Hid ((segB n (ensOf es)).length ≤ (segB n (ensOf (es ++ fs))).length) := Lib.hid (by rw [HAB.out, List.length_append]; omega)
  have HDR : Hid (D.append room20 sg1 ((segB n (ensOf (es ++ fs))).drop (segB n (ensOf es)).length) (two (segB n (ensOf es)) (segB n (ensOf es)).length (segB n (ensOf (es ++ fs)))) = (0, two (segB n (ensOf (es ++ fs))) (segB n (ensOf es)).length (segB n (ensOf (es ++ fs))))) := Lib.hid (by
    have h1 := HBL.out
    have h2 := HLE.out
    rw [two_append (by rw [List.length_drop]; unfold room20; omega)]
    rw [show segB n (ensOf es) ++ (segB n (ensOf (es ++ fs))).drop (segB n (ensOf es)).length = segB n (ensOf (es ++ fs)) by rw [HAB.out, List.drop_left]])
  have HI14 := Lib.hid (two_inv (room := room20) (d := segB n (ensOf es)) (b := segB n (ensOf (es ++ fs))) (y := (segB n (ensOf es)).length) (by have h1 := HBL.out; have h2 := HLE.out; unfold room20; omega) (Nat.le_refl _))
  have HI18 := Lib.hid (two_inv (room := room20) (d := segB n (ensOf (es ++ fs))) (b := segB n (ensOf (es ++ fs))) (y := (segB n (ensOf es)).length) (by have h1 := HBL.out; unfold room20; omega) HLE.out)
  obtain ⟨cut, hcu1, hcu2⟩ := two_crash (d := segB n (ensOf (es ++ fs))) (y := (segB n (ensOf es)).length) (b := segB n (ensOf (es ++ fs))) (keep := keep) HLE.out
  have HCU := Lib.hid hcu2
  obtain ⟨k, hk1, hk2, hld⟩ := load_cut (n := n) (es := ensOf (es ++ fs)) (m := es.length) (cut := cut) hn1 hn2 HFA.out (by rw [ensOf_len, List.length_append]; omega) (by
    rw [show (ensOf (es ++ fs)).take es.length = ensOf es by rw [HEB.out, List.take_left' (ensOf_len es)]]
    exact hcu1)
  rw [ensOf_len] at hk2
  clear hcu1 hcu2
  have HKK : Hid (ensOf ((es ++ fs).take k) = (ensOf (es ++ fs)).take k) := Lib.hid List.map_take
  have HKD : Hid ((ensOf (es ++ fs)).take k ++ ensOf ((es ++ fs).drop k) = ensOf (es ++ fs)) := Lib.hid (by rw [← HKK.out, ← List.map_append, List.take_append_drop])
  obtain ⟨t0, HT0⟩ : ∃ t0, Hid (loadL ((segB n (ensOf (es ++ fs))).take cut) = some (n, (ensOf (es ++ fs)).take k, t0)) := ⟨_, Lib.hid hld⟩
  clear hld
  obtain ⟨Kk, HK⟩ : ∃ Kk, Hid ((ensOf (es ++ fs)).take k = Kk) := ⟨_, Lib.hid rfl⟩
  rw [HK.out] at HT0 HKD HKK
  have HKF : Hid (R.follows Kk ((n : Int) - 1) 0 = true) := Lib.hid (by rw [← HK.out]; exact follows_take HFA.out k)
  have HKL : Hid (Kk.length = k) := Lib.hid (by rw [← HK.out, List.length_take, ensOf_len]; omega)
  have HSK : Hid ((segB n Kk).length ≤ 240000) := Lib.hid (seg80 hn2 (follows_all HKF.out) (by rw [HKL.out]; omega))
  have HTC : Hid (((segB n (ensOf (es ++ fs))).take cut).length ≤ 240000) := Lib.hid (by have := HBL.out; rw [List.length_take]; omega)
  have HLD := Lib.hid (two_load (y := ((segB n (ensOf (es ++ fs))).take cut).length) (b := segB n (ensOf (es ++ fs))) HT0.out)
  have HCT := Lib.hid (two_cut HT0.out HTC.out HBL.out)
  have HLD2 := Lib.hid (two_load (y := (segB n Kk).length) (b := segB n (ensOf (es ++ fs))) (load_seg hn1 hn2 HKF.out))
  have HAG := Lib.hid (two_again (es0 := Kk) (es := ensOf ((es ++ fs).drop k)) hn1 hn2 HBL.out (by rw [HKD.out]; exact HFA.out) (by rw [HKD.out, ensOf_len]; exact hl80))
  have HI19 := Lib.hid (two_inv (room := room20) (d := (segB n (ensOf (es ++ fs))).take cut) (b := segB n (ensOf (es ++ fs))) (y := ((segB n (ensOf (es ++ fs))).take cut).length) (by have h1 := HBL.out; have h2 := HTC.out; unfold room20; omega) (Nat.le_refl _))
  have HI24 := Lib.hid (two_inv (room := room20) (d := segB n Kk) (b := segB n (ensOf (es ++ fs))) (y := (segB n Kk).length) (by have h1 := HBL.out; have h2 := HSK.out; unfold room20; omega) (Nat.le_refl _))
  have HRT : Hid (∀ x ∈ (es ++ fs).take k, x.1.b.events.length ≤ 1000000) := Lib.hid fun x hx => right_ev (follows_all HFA.out x.1 (List.mem_map.2 ⟨x, List.mem_of_mem_take hx, rfl⟩))
  clear HAB HT0 HTC HSK HKF HFA HT2 HIc HC2 HI6 HN6 HFO
  have hsab := HLE.out
  have hbl := HBL.out
  generalize segB n (ensOf (es ++ fs)) = sb at *
  generalize segB n (ensOf es) = sa at *
  have hsabi : (sa.length : Int) ≤ (sb.length : Int) := by omega
  have HR1 : Hid (D.read sg1 (two sa sa.length sb) = (sa, 0)) := Lib.hid (by unfold D.read; rw [two_find1])
  have HR2 : Hid (D.read sg2 (two sa sa.length sb) = (sb, 0)) := Lib.hid (by unfold D.read; rw [two_find2]; rfl)
  have hp14 := HS14.out.pa
  go_wp2_with fail
  refine (C.read sg1 sa 0 HS14.out.at_ HI14.out (by decide) (by simp) HR1.out).mono ?_
  rintro x w15 ⟨rfl, hb15⟩
  have HS15 := Lib.hid (HS14.out.below hb15)
  clear hb15 HS14 hp14 hHeld
  have hp15 := HS15.out.pa
  go_wp2_with fail
  refine (C.read sg2 sb 0 HS15.out.at_ HI14.out (by decide) (by simp) HR2.out).mono ?_
  rintro x w16 ⟨rfl, hb16⟩
  have HS16 := Lib.hid (HS15.out.below hb16)
  clear hb16 HS15 hp15
  have hp16 := HS16.out.pa
  have HS17 := Lib.hid HS16.out.drew
  go_upto_region 16 with (fail)
  refine wp_region_held_drew (S := fun w' => w'.cell? ⟨ga, 0, none⟩ = some (dP p)) (by kernel_rfl) ?_ (fun hHeld => ?_)
  · exact hp16
  generalize w16.drew = w17 at *
  clear HS16 hp16
  refine take_wanted (i := 0) (v := ?_) rfl (by kernel_rfl) (by kernel_rfl) (by kernel_rfl) (fun _ _ _ h => h) (by rfl) ?_ (by assumption) ?_
  rotate_left
  · intro w hSw
    (try dsimp only at hSw)
    go_simp
    (try with_reducible rfl)
  simp only [Act.put, List.setIfInBounds_toArray, List.set_cons_zero, List.set_cons_succ]
  refine take_wanted (i := 1) (v := ?_) rfl (by kernel_rfl) (by kernel_rfl) (by kernel_rfl) (fun _ _ _ h => h) (by rfl) ?_ (by assumption) ?_
  rotate_left
  · intro w hSw
    (try dsimp only at hSw)
    go_simp
    (try with_reducible rfl)
  simp only [Act.put, List.setIfInBounds_toArray, List.set_cons_zero, List.set_cons_succ]
  refine take_wanted (i := 2) (v := ?_) rfl (by kernel_rfl) (by kernel_rfl) (by kernel_rfl) (fun _ _ _ h => h) (by rfl) ?_ (by assumption) ?_
  rotate_left
  · intro w hSw
    (try dsimp only at hSw)
    go_simp
    (try with_reducible rfl)
  simp only [Act.put, List.setIfInBounds_toArray, List.set_cons_zero, List.set_cons_succ]
  refine take_wanted (i := 3) (v := ?_) rfl (by kernel_rfl) (by kernel_rfl) (by kernel_rfl) (fun _ _ _ h => h) (by rfl) ?_ (by assumption) ?_
  rotate_left
  · intro w hSw
    (try dsimp only at hSw)
    go_simp
    (try with_reducible rfl)
  simp only [Act.put, List.setIfInBounds_toArray, List.set_cons_zero, List.set_cons_succ]
  refine take_wanted (i := 4) (v := ?_) rfl (by kernel_rfl) (by kernel_rfl) (by kernel_rfl) (fun _ _ _ h => h) (by rfl) ?_ (by assumption) ?_
  rotate_left
  · intro w hSw
    (try dsimp only at hSw)
    go_simp
    (try with_reducible rfl)
  simp only [Act.put, List.setIfInBounds_toArray, List.set_cons_zero, List.set_cons_succ]
  refine take_wanted (i := 5) (v := ?_) rfl (by kernel_rfl) (by kernel_rfl) (by kernel_rfl) (fun _ _ _ h => h) (by rfl) ?_ (by assumption) ?_
  rotate_left
  · intro w hSw
    (try dsimp only at hSw)
    go_simp
    (try with_reducible rfl)
  simp only [Act.put, List.setIfInBounds_toArray, List.set_cons_zero, List.set_cons_succ]
  refine take_only (i := 6) (by kernel_rfl) rfl (by rfl) (fun K hK => ?_)
  go_simp
  go_at_call 26
  refine (C.append sg1 (sb.drop sa.length) 0 _ HS17.out.at_ HI14.out (by decide) (by simp) (by rw [List.length_drop]; omega) HDR.out).mono ?_
  rintro x w18 ⟨rfl, ⟨S18, hd18, hg18⟩, hb18⟩
  refine hK.out _ _ ?_ (fun hHeld => ?_)
  · exact (HS17.out.next hd18 hg18 hb18).pa
  clear hK K
  have HS18 := Lib.hid (HS17.out.next hd18 hg18 hb18)
  clear hd18 hg18 hb18 HS17
  refine take_wanted (i := 7) (v := ?_) rfl (by kernel_rfl) (by kernel_rfl) (by kernel_rfl) (fun _ _ _ h => h) (by rfl) ?_ (by assumption) ?_
  rotate_left
  · intro w hSw
    (try dsimp only at hSw)
    go_simp
    (try with_reducible rfl)
  simp only [Act.put, List.setIfInBounds_toArray, List.set_cons_zero, List.set_cons_succ]
  refine wpAnyH_done (by kernel_rfl) ?_ _
  have hp18 := HS18.out.pa
  go_wp2_with fail
  have hal : Below w18.heap.size w18 (w18.alloc (.cells #[.int .i64 keep] 3)) := (Below.refl _ _).alloc (Nat.le_refl _) _
  have hnew := heap_alloc_new w18 (.cells #[.int .i64 keep] 3)
  have HNK : Hid (¬ S18 w18.heap.size) := Lib.hid fun h => by have := (C.low HS18.out.at_ h).2; omega
  have HS19 := Lib.hid (HS18.out.below hal)
  refine (C.crash [keep] _ HS19.out.at_ HI18.out (by decide) (fun w' h => reads_one9 HKE.out (but_at h hnew HNK.out)) (by simp)).mono ?_
  rintro x w20 ⟨rfl, ⟨S20, hd20, hg20⟩, hb20⟩
  rw [HCU.out] at hd20
  have HS20 := Lib.hid (HS19.out.next hd20 hg20 hb20)
  clear hd20 hg20 hb20 HS19 HS18 hal hnew HNK hp18 hHeld
  have hp20 := HS20.out.pa
  go_wp2_with fail
  refine (Z.load 1 0 n Kk t0 HS20.out.at_ HI19.out (by decide) (two_named _ _ _) (by omega) HLD.out).mono ?_
  rintro x w21 ⟨⟨v, xs, rfl, hxs, hrd⟩, hb21⟩
  have hxk : xs.length = k := by rw [← ensOf_len, hxs, HKL.out]
  obtain ⟨a2, cap2, hv, -⟩ := hrd w21 (D.But.refl _ _)
  rw [hxk] at hv
  subst hv
  have HXS := Lib.hid hxs
  have HXK := Lib.hid hxk
  have HS21 := Lib.hid (HS20.out.below hb21)
  have hal : Below w21.heap.size w21 (w21.alloc (.cells #[.int .i64 (n : Int), .slice a2 k cap2, .bool t0] 38)) := (Below.refl _ _).alloc (Nat.le_refl _) _
  have hnew := heap_alloc_new w21 (.cells #[.int .i64 (n : Int), .slice a2 k cap2, .bool t0] 38)
  have g0 : (w21.alloc (.cells #[.int .i64 (n : Int), .slice a2 k cap2, .bool t0] 38)).cell? ⟨w21.heap.size, 0, none⟩ = some (.int .i64 (n : Int)) := by rw [blk9 hnew]; rfl
  have g1 : (w21.alloc (.cells #[.int .i64 (n : Int), .slice a2 k cap2, .bool t0] 38)).cell? ⟨w21.heap.size, 1, none⟩ = some (.slice a2 k cap2) := by rw [blk9 hnew]; rfl
  have HS22 := Lib.hid (HS21.out.below hal)
  have HNG : Hid (¬ S20 w21.heap.size) := Lib.hid fun h => by have := (C.low HS21.out.at_ h).2; omega
  have HLW : Hid (∀ k, w21.heap.size ≤ k → ¬ S20 k) := Lib.hid fun k hk hs => by have := (C.low HS21.out.at_ hs).2; omega
  have HRX : Hid (∀ w2, D.But S20 (w21.alloc (.cells #[.int .i64 (n : Int), .slice a2 k cap2, .bool t0] 38)) w2 → ReadsR w2 (.slice a2 k cap2) xs) := Lib.hid fun w2 hb => hrd w2 ((D.But.of_below hal).trans hb)
  have ho0 := own_zero9 (w := w21.alloc (.cells #[.int .i64 (n : Int), .slice a2 k cap2, .bool t0] 38)) (w1 := (w21.alloc (.cells #[.int .i64 (n : Int), .slice a2 k cap2, .bool t0] 38)).alloc (.cells #[] 55)) rfl
  have hb23 : Below (w21.alloc (.cells #[.int .i64 (n : Int), .slice a2 k cap2, .bool t0] 38)).heap.size (w21.alloc (.cells #[.int .i64 (n : Int), .slice a2 k cap2, .bool t0] 38)) ((w21.alloc (.cells #[.int .i64 (n : Int), .slice a2 k cap2, .bool t0] 38)).alloc (.cells #[] 55)) := (Below.refl _ _).alloc (Nat.le_refl _) _
  have hsz : (w21.alloc (.cells #[.int .i64 (n : Int), .slice a2 k cap2, .bool t0] 38)).heap.size = w21.heap.size + 1 := by simp
  have hbw23 := HS22.out.bel.trans (hb23.mono HS22.out.bel.size)
  have hbs23 := hb23.size
  rw [hsz] at ho0 hbs23
  clear hrd hxs hxk hb21 hal hnew HS20 HS21 hp20
  go_wp2_with (at_builtin; first
    | (refine wpList_entries (by rfl) (w21.heap.size + 1) _ 0 [] ho0 aa es.length cap es (readsR_below HV.out hbw23) rfl (by omega) hbs23 (.tmp 119) (.tmp 120) (by rfl) (by rfl) (by rfl) ?_; intro v3 w24 hown3 hgr3; have HO3 := Lib.hid hown3; have HG3 := Lib.hid (grown_fresh hb23 hgr3 (fun k hk => by rw [hsz]; exact (ho0.lt k hk).1)); clear hown3 hgr3)
    | (refine wpList_entries (by rfl) (w21.heap.size + 1) _ _ _ HO3.out ab fs.length capb fs (readsR_below HVB.out (HS22.out.bel.trans (HG3.out.mono HS22.out.bel.size))) rfl (by omega) (by have := HG3.out.size; omega) (.tmp 121) (.tmp 122) (by rfl) (by rfl) (by rfl) ?_; intro v4 w25 hown4 hgr4; have HO4 := Lib.hid hown4; have HG4 := Lib.hid (grown_fresh HG3.out hgr4 (fun k hk => by rw [hsz]; exact (HO3.out.lt k hk).1)); clear hown4 hgr4))
  have hown4 := HO4.out
  have hb25 := HG4.out
  clear ho0 hbw23 hbs23 hb23 HO3 HG3 HO4 HG4
  obtain ⟨a4, c4, hv4, hc4⟩ := own_slice hown4
  subst hv4
  have HOW := Lib.hid hown4
  clear hown4
  have HS25 := Lib.hid (HS22.out.below hb25)
  have y0 := below_keeps hb25 _ _ g0
  have y1 := below_keeps hb25 _ _ g1
  have HRX25 : Hid (∀ w2, D.But S20 w25 w2 → ReadsR w2 (.slice a2 k cap2) xs) := Lib.hid fun w2 hb => HRX.out w2 ((D.But.of_below hb25).trans hb)
  have HZ25 : Hid (w21.heap.size < w25.heap.size) := Lib.hid (by have := hb25.size; omega)
  clear hb25 g0 g1 HRX HS22 hsz
  generalize w21.heap.size = gb at *
  have HLN : Hid ((es ++ fs).length = 0 + es.length + fs.length) := Lib.hid (by rw [List.length_append]; omega)
  have hNk : k ≤ 0 + es.length + fs.length := by have := HLN.out; omega
  obtain ⟨N, HN⟩ : ∃ N, Hid (0 + es.length + fs.length = N) := ⟨_, Lib.hid rfl⟩
  rw [HN.out] at hNk hc4 HLN
  have HRJ : Hid (∀ w', D.But S20 w25 w' → ReadsR w' (.slice a4 N c4) (es ++ fs)) := Lib.hid fun w' hb => by
    have := reads_joined HV.out HVB.out (but_low HS25.out.bel hb HS25.out.lo) (own_but HOW.out hb fun k hk => HLW.out k (by omega))
    rwa [HN.out] at this
  rw [HN.out]
  have hNi : (k : Int) ≤ (N : Int) := by omega
  have hkci : (k : Int) ≤ (c4 : Int) := by omega
  have hNci : (N : Int) ≤ (c4 : Int) := by omega
  have hNn : ¬ (N : Int) < (k : Int) := by omega
  have hkl : ¬ (k : Int) < (es.length : Int) := by omega
  have hnf : ((n : Int) != f) = false := by have := HFN.out.1; simp [this]
  have HS26 := Lib.hid HS25.out.drew
  have hq : w25.cell? ⟨ga, 0, none⟩ = some (dP p) ∧ w25.cell? ⟨gb, 0, none⟩ = some (.int .i64 (n : Int)) ∧ w25.cell? ⟨gb, 1, none⟩ = some (.slice a2 k cap2) := ⟨HS25.out.pa, y0, y1⟩
  have hd25 : Below w25.heap.size w25 w25.drew := ⟨rfl, rfl, rfl, Nat.le_refl _, fun _ _ => rfl⟩
  have HRX26 : Hid (∀ w2, D.But S20 w25.drew w2 → ReadsR w2 (.slice a2 k cap2) xs) := Lib.hid fun w2 hb => HRX25.out w2 ((D.But.of_below hd25).trans hb)
  have HRJ26 : Hid (∀ w2, D.But S20 w25.drew w2 → ReadsR w2 (.slice a4 N c4) (es ++ fs)) := Lib.hid fun w2 hb => HRJ.out w2 ((D.But.of_below hd25).trans hb)
  have HOW26 : Hid (w25.drew.ownsRow (gb + 1) 55 7 (.slice a4 (0 + es.length + fs.length) c4) (0 + es.length + fs.length) ([] ++ enCells es ++ enCells fs)) := Lib.hid HOW.out
  clear y0 y1 hd25 HRX25 HRJ HOW HS25
  go_upto_region 22 with (fail)
  refine wp_region_held_drew (S := fun w' => w'.cell? ⟨ga, 0, none⟩ = some (dP p) ∧ w'.cell? ⟨gb, 0, none⟩ = some (.int .i64 (n : Int)) ∧ w'.cell? ⟨gb, 1, none⟩ = some (.slice a2 k cap2)) (by kernel_rfl) ?_ (fun hHeld => ?_)
  · exact hq
  generalize w25.drew = w26 at *
  clear hq
  refine take_wanted (i := 0) (v := ?_) rfl (by kernel_rfl) (by kernel_rfl) (by kernel_rfl) (fun _ _ _ h => h) (by rfl) ?_ (by assumption) ?_
  rotate_left
  · intro w hSw
    (try dsimp only at hSw)
    go_simp
    (try with_reducible rfl)
  simp only [Act.put, List.setIfInBounds_toArray, List.set_cons_zero, List.set_cons_succ]
  refine take_wanted (i := 1) (v := ?_) rfl (by kernel_rfl) (by kernel_rfl) (by kernel_rfl) (fun _ _ _ h => h) (by rfl) ?_ (by assumption) ?_
  rotate_left
  · intro w hSw
    (try dsimp only at hSw)
    go_simp
    (try with_reducible rfl)
  simp only [Act.put, List.setIfInBounds_toArray, List.set_cons_zero, List.set_cons_succ]
  refine take_wanted (i := 2) (v := ?_) rfl (by kernel_rfl) (by kernel_rfl) (by kernel_rfl) (fun _ _ _ h => h) (by rfl) ?_ (by assumption) ?_
  rotate_left
  · intro w hSw
    (try dsimp only at hSw)
    go_simp
    (try with_reducible rfl)
  simp only [Act.put, List.setIfInBounds_toArray, List.set_cons_zero, List.set_cons_succ]
  refine take_wanted (i := 3) (v := ?_) rfl (by kernel_rfl) (by kernel_rfl) (by kernel_rfl) (fun _ _ _ h => h) (by rfl) ?_ (by assumption) ?_
  rotate_left
  · intro w hSw
    (try dsimp only at hSw)
    go_simp
    (try with_reducible rfl)
  simp only [Act.put, List.setIfInBounds_toArray, List.set_cons_zero, List.set_cons_succ]
  refine take_wanted (i := 4) (v := ?_) rfl (by kernel_rfl) (by kernel_rfl) (by kernel_rfl) (fun _ _ _ h => h) (by rfl) ?_ (by assumption) ?_
  rotate_left
  · intro w hSw
    (try dsimp only at hSw)
    go_simp
    (try with_reducible rfl)
  simp only [Act.put, List.setIfInBounds_toArray, List.set_cons_zero, List.set_cons_succ]
  refine take_wanted (i := 5) (v := ?_) rfl (by kernel_rfl) (by kernel_rfl) (by kernel_rfl) (fun _ _ _ h => h) (by rfl) ?_ (by assumption) ?_
  rotate_left
  · intro w hSw
    (try dsimp only at hSw)
    go_simp
    (try with_reducible rfl)
  simp only [Act.put, List.setIfInBounds_toArray, List.set_cons_zero, List.set_cons_succ]
  refine take_wanted (i := 6) (v := ?_) rfl (by kernel_rfl) (by kernel_rfl) (by kernel_rfl) (fun _ _ _ h => h) (by rfl) ?_ (by assumption) ?_
  rotate_left
  · intro w hSw
    (try dsimp only at hSw)
    go_simp
    (try with_reducible rfl)
  simp only [Act.put, List.setIfInBounds_toArray, List.set_cons_zero, List.set_cons_succ]
  refine take_wanted (i := 7) (v := ?_) rfl (by kernel_rfl) (by kernel_rfl) (by kernel_rfl) (fun _ _ _ h => h) (by rfl) ?_ (by assumption) ?_
  rotate_left
  · intro w hSw
    (try dsimp only at hSw)
    go_simp
    (try with_reducible rfl)
  simp only [Act.put, List.setIfInBounds_toArray, List.set_cons_zero, List.set_cons_succ]
  refine take_wanted (i := 8) (v := ?_) rfl (by kernel_rfl) (by kernel_rfl) (by kernel_rfl) (fun _ _ _ h => h) (by rfl) ?_ (by assumption) ?_
  rotate_left
  · intro w hSw
    (try dsimp only at hSw)
    go_simp
    (try with_reducible rfl)
  simp only [Act.put, List.setIfInBounds_toArray, List.set_cons_zero, List.set_cons_succ]
  refine take_wanted (i := 9) (v := ?_) rfl (by kernel_rfl) (by kernel_rfl) (by kernel_rfl) (fun _ _ _ h => h) (by rfl) ?_ (by assumption) ?_
  rotate_left
  · intro w hSw
    (try dsimp only at hSw)
    go_simp
    (try with_reducible rfl)
  simp only [Act.put, List.setIfInBounds_toArray, List.set_cons_zero, List.set_cons_succ]
  refine take_wanted (i := 10) (v := ?_) rfl (by kernel_rfl) (by kernel_rfl) (by kernel_rfl) (fun _ _ _ h => h) (by rfl) ?_ (by assumption) ?_
  rotate_left
  · intro w hSw
    (try dsimp only at hSw)
    go_simp
    (try with_reducible rfl)
  simp only [Act.put, List.setIfInBounds_toArray, List.set_cons_zero, List.set_cons_succ]
  refine take_wanted (i := 11) (v := ?_) rfl (by kernel_rfl) (by kernel_rfl) (by kernel_rfl) (fun _ _ _ h => h) (by rfl) ?_ (by assumption) ?_
  rotate_left
  · intro w hSw
    (try dsimp only at hSw)
    go_simp
    (try with_reducible rfl)
  simp only [Act.put, List.setIfInBounds_toArray, List.set_cons_zero, List.set_cons_succ]
  refine take_wanted (i := 12) (v := ?_) rfl (by kernel_rfl) (by kernel_rfl) (by kernel_rfl) (fun _ _ _ h => h) (by rfl) ?_ (by assumption) ?_
  rotate_left
  · intro w hSw
    (try dsimp only at hSw)
    go_simp
    (try with_reducible rfl)
  simp only [Act.put, List.setIfInBounds_toArray, List.set_cons_zero, List.set_cons_succ]
  refine take_wanted (i := 13) (v := ?_) rfl (by kernel_rfl) (by kernel_rfl) (by kernel_rfl) (fun _ _ _ h => h) (by rfl) ?_ (by assumption) ?_
  rotate_left
  · intro w hSw
    (try dsimp only at hSw)
    go_simp
    (try with_reducible rfl)
  simp only [Act.put, List.setIfInBounds_toArray, List.set_cons_zero, List.set_cons_succ]
  refine take_wanted (i := 14) (v := ?_) rfl (by kernel_rfl) (by kernel_rfl) (by kernel_rfl) (fun _ _ _ h => h) (by rfl) ?_ (by assumption) ?_
  rotate_left
  · intro w hSw
    (try dsimp only at hSw)
    go_simp
    (try with_reducible rfl)
  simp only [Act.put, List.setIfInBounds_toArray, List.set_cons_zero, List.set_cons_succ]
  refine take_wanted (i := 15) (v := ?_) rfl (by kernel_rfl) (by kernel_rfl) (by kernel_rfl) (fun _ _ _ h => h) (by rfl) ?_ (by assumption) ?_
  rotate_left
  · intro w hSw
    (try dsimp only at hSw)
    go_simp
    (try with_reducible rfl)
  simp only [Act.put, List.setIfInBounds_toArray, List.set_cons_zero, List.set_cons_succ]
  refine take_wanted (i := 16) (v := ?_) rfl (by kernel_rfl) (by kernel_rfl) (by kernel_rfl) (fun _ _ _ h => h) (by rfl) ?_ (by assumption) ?_
  rotate_left
  · intro w hSw
    (try dsimp only at hSw)
    go_simp
    (try with_reducible rfl)
  simp only [Act.put, List.setIfInBounds_toArray, List.set_cons_zero, List.set_cons_succ]
  refine take_wanted (i := 17) (v := ?_) rfl (by kernel_rfl) (by kernel_rfl) (by kernel_rfl) (fun _ _ _ h => h) (by rfl) ?_ (by assumption) ?_
  rotate_left
  · intro w hSw
    (try dsimp only at hSw)
    go_simp
    (try with_reducible rfl)
  simp only [Act.put, List.setIfInBounds_toArray, List.set_cons_zero, List.set_cons_succ]
  refine take_wanted (i := 18) (v := ?_) rfl (by kernel_rfl) (by kernel_rfl) (by kernel_rfl) (fun _ _ _ h => h) (by rfl) ?_ (by assumption) ?_
  rotate_left
  · intro w hSw
    (try dsimp only at hSw)
    go_simp
    (try with_reducible rfl)
  simp only [Act.put, List.setIfInBounds_toArray, List.set_cons_zero, List.set_cons_succ]
  refine take_wanted (i := 19) (v := ?_) rfl (by kernel_rfl) (by kernel_rfl) (by kernel_rfl) (fun _ _ _ h => h) (by rfl) ?_ (by assumption) ?_
  rotate_left
  · intro w hSw
    (try dsimp only at hSw)
    go_simp
    (try with_reducible rfl)
  simp only [Act.put, List.setIfInBounds_toArray, List.set_cons_zero, List.set_cons_succ]
  refine take_wanted (i := 20) (v := ?_) rfl (by kernel_rfl) (by kernel_rfl) (by kernel_rfl) (fun _ _ _ h => h) (by rfl) ?_ (by assumption) ?_
  rotate_left
  · intro w hSw
    (try dsimp only at hSw)
    go_simp
    (try with_reducible rfl)
  simp only [Act.put, List.setIfInBounds_toArray, List.set_cons_zero, List.set_cons_succ]
  refine take_wanted (i := 21) (v := ?_) rfl (by kernel_rfl) (by kernel_rfl) (by kernel_rfl) (fun _ _ _ h => h) (by rfl) ?_ (by assumption) ?_
  rotate_left
  · intro w hSw
    (try dsimp only at hSw)
    go_simp
    (try with_reducible rfl)
  simp only [Act.put, List.setIfInBounds_toArray, List.set_cons_zero, List.set_cons_succ]
  refine take_wanted (i := 22) (v := ?_) rfl (by kernel_rfl) (by kernel_rfl) (by kernel_rfl) (fun _ _ _ h => h) (by rfl) ?_ (by assumption) ?_
  rotate_left
  · intro w hSw
    (try dsimp only at hSw)
    go_simp
    (try with_reducible rfl)
  simp only [Act.put, List.setIfInBounds_toArray, List.set_cons_zero, List.set_cons_succ]
  refine take_wanted (i := 23) (v := ?_) rfl (by kernel_rfl) (by kernel_rfl) (by kernel_rfl) (fun _ _ _ h => h) (by rfl) ?_ (by assumption) ?_
  rotate_left
  · intro w hSw
    (try dsimp only at hSw)
    go_simp
    (try with_reducible rfl)
  simp only [Act.put, List.setIfInBounds_toArray, List.set_cons_zero, List.set_cons_succ]
  refine take_wanted (i := 24) (v := ?_) rfl (by kernel_rfl) (by kernel_rfl) (by kernel_rfl) (fun _ _ _ h => h) (by rfl) ?_ (by assumption) ?_
  rotate_left
  · intro w hSw
    (try dsimp only at hSw)
    go_simp
    (try with_reducible rfl)
  simp only [Act.put, List.setIfInBounds_toArray, List.set_cons_zero, List.set_cons_succ]
  refine take_wanted (i := 25) (v := ?_) rfl (by kernel_rfl) (by kernel_rfl) (by kernel_rfl) (fun _ _ _ h => h) (by rfl) ?_ (by assumption) ?_
  rotate_left
  · intro w hSw
    (try dsimp only at hSw)
    go_simp
    (try with_reducible rfl)
  simp only [Act.put, List.setIfInBounds_toArray, List.set_cons_zero, List.set_cons_succ]
  have HTK : Hid (ReadsR w26 (.slice a4 k c4) ((es ++ fs).take k)) := Lib.hid (readsR_take (by rw [HLN.out]; exact HRJ26.out w26 (D.But.refl _ _)) (by rw [HLN.out]; exact hNk))
  have HSR := Lib.hid (SameRow_true xs ((es ++ fs).take k) (.slice a2 k cap2) (.slice a4 k c4) w26 (HRX26.out w26 (D.But.refl _ _)) HTK.out (by rw [HXS.out, HKK.out]) (by rw [HXK.out]; omega) HRT.out)
  refine take_only (i := 26) (by kernel_rfl) rfl (by rfl) (fun K hK => ?_)
  go_simp
  go_at_call 28
  refine (HSR.out).mono ?_
  rintro x w27 ⟨rfl, hb27⟩
  refine hK.out _ _ ?_ (fun hHeld => ?_)
  · exact ⟨below_keeps hb27 _ _ hHeld.1, below_keeps hb27 _ _ hHeld.2.1, below_keeps hb27 _ _ hHeld.2.2⟩
  clear hK K
  have HS27 := Lib.hid (HS26.out.below hb27)
  have HRX27 : Hid (∀ w2, D.But S20 w27 w2 → ReadsR w2 (.slice a2 k cap2) xs) := Lib.hid fun w2 hb => HRX26.out w2 ((D.But.of_below hb27).trans hb)
  have HOW27 := Lib.hid (own_below5 HOW26.out hb27)
  have HZ27 : Hid (gb < w27.heap.size) := Lib.hid (by have := World.block_lt_of_cell? _ _ hHeld.2.1; exact this)
  clear hb27 HS26 HRX26 HRJ26 HOW26 HTK HSR HZ25
  refine take_wanted (i := 27) (v := ?_) rfl (by kernel_rfl) (by kernel_rfl) (by kernel_rfl) (fun _ _ _ h => h) (by rfl) ?_ (by assumption) ?_
  rotate_left
  · intro w hSw
    (try dsimp only at hSw)
    go_simp
    (try with_reducible rfl)
  simp only [Act.put, List.setIfInBounds_toArray, List.set_cons_zero, List.set_cons_succ]
  refine take_wanted (i := 28) (v := ?_) rfl (by kernel_rfl) (by kernel_rfl) (by kernel_rfl) (fun _ _ _ h => h) (by rfl) ?_ (by assumption) ?_
  rotate_left
  · intro w hSw
    (try dsimp only at hSw)
    go_simp
    (try with_reducible rfl)
  simp only [Act.put, List.setIfInBounds_toArray, List.set_cons_zero, List.set_cons_succ]
  refine wpAnyH_done (by kernel_rfl) ?_ _
  have hp27 := hHeld.1
  have z1 := hHeld.2.2
  go_wp2_with fail
  refine (Z.cut 1 274877906944 0 _ HS27.out.at_ HI19.out (by decide) (two_named _ _ _) (by omega) (by omega) ⟨by omega, by omega⟩ HCT.out).mono ?_
  rintro x w28 ⟨rfl, ⟨S28, hd28, hg28⟩, hb28⟩
  have HS28 := Lib.hid (HS27.out.next hd28 hg28 hb28)
  have HNG28 : Hid (¬ S28 gb) := Lib.hid (off9 hg28 HZ27.out HNG.out)
  have z2 := cell_but z1 hb28 HNG.out
  have HX28 := Lib.hid (HRX27.out w28 hb28)
  have HOW28 := Lib.hid (own_but2 HOW27.out hb28 fun k hk => HLW.out k (by have := (HOW27.out.lt k hk).1; omega))
  have HOF : Hid (∀ k, (Value.slice a4 (0 + es.length + fs.length) c4).ownBlock = some k → ¬ S28 k) := Lib.hid fun k hk => off9 hg28 (HOW27.out.lt k hk).2 (HLW.out k (by have := (HOW27.out.lt k hk).1; omega))
  clear hd28 hg28 hb28 HS27 HRX27 HOW27 z1 hp27 hHeld HCT
  have hp28 := HS28.out.pa
  go_wp2_with fail
  refine (Z.load 1 0 n Kk false HS28.out.at_ HI24.out (by decide) (two_named _ _ _) (by omega) HLD2.out).mono ?_
  rintro x w29 ⟨⟨v, ys, rfl, hys, hrd⟩, hb29⟩
  have hyk : ys.length = k := by rw [← ensOf_len, hys, HKL.out]
  obtain ⟨a5, cap5, hv, -⟩ := hrd w29 (D.But.refl _ _)
  rw [hyk] at hv
  subst hv
  have hal : Below w29.heap.size w29 (w29.alloc (.cells #[.int .i64 (n : Int), .slice a5 k cap5, .bool false] 38)) := (Below.refl _ _).alloc (Nat.le_refl _) _
  have hnew := heap_alloc_new w29 (.cells #[.int .i64 (n : Int), .slice a5 k cap5, .bool false] 38)
  have g1 : (w29.alloc (.cells #[.int .i64 (n : Int), .slice a5 k cap5, .bool false] 38)).cell? ⟨w29.heap.size, 1, none⟩ = some (.slice a5 k cap5) := by rw [blk9 hnew]; rfl
  have g2 : (w29.alloc (.cells #[.int .i64 (n : Int), .slice a5 k cap5, .bool false] 38)).cell? ⟨w29.heap.size, 2, none⟩ = some (.bool false) := by rw [blk9 hnew]; rfl
  have HS29 := Lib.hid (HS28.out.below hb29)
  have HNC : Hid (¬ S28 w29.heap.size) := Lib.hid fun h => by have := (C.low HS29.out.at_ h).2; omega
  have z3 := below_keeps hal _ _ (below_keeps hb29 _ _ z2)
  have HS30 := Lib.hid ((HS29.out.below hal).drew)
  have hq : Q4 ga gb w29.heap.size (dP p) (.slice a2 k cap2) (.slice a5 k cap5) (w29.alloc (.cells #[.int .i64 (n : Int), .slice a5 k cap5, .bool false] 38)) := ⟨(HS29.out.below hal).pa, z3, g1, g2⟩
  have HX30 : Hid (ReadsR (w29.alloc (.cells #[.int .i64 (n : Int), .slice a5 k cap5, .bool false] 38)).drew (.slice a2 k cap2) xs) := Lib.hid (readsR_below (readsR_below (readsR_below HX28.out hb29) hal) ⟨rfl, rfl, rfl, Nat.le_refl _, fun _ _ => rfl⟩)
  have HY30 : Hid (ReadsR (w29.alloc (.cells #[.int .i64 (n : Int), .slice a5 k cap5, .bool false] 38)).drew (.slice a5 k cap5) ys) := Lib.hid (readsR_below (hrd _ (D.But.of_below hal)) ⟨rfl, rfl, rfl, Nat.le_refl _, fun _ _ => rfl⟩)
  have HOW30 := Lib.hid (own_below5 (own_below5 (own_below5 HOW28.out hb29) hal) (w' := (w29.alloc (.cells #[.int .i64 (n : Int), .slice a5 k cap5, .bool false] 38)).drew) ⟨rfl, rfl, rfl, Nat.le_refl _, fun _ _ => rfl⟩)
  have HYS := Lib.hid hys
  have HYK := Lib.hid hyk
  have HRX : Hid (∀ x ∈ xs, x.1.b.events.length ≤ 1000000) := Lib.hid fun x hx => by
    have h1 : x.1 ∈ ensOf ((es ++ fs).take k) := by rw [HKK.out, ← HXS.out]; exact List.mem_map.2 ⟨x, hx, rfl⟩
    obtain ⟨y, hy, e⟩ := List.mem_map.1 h1
    rw [← e]
    exact HRT.out y hy
  clear hrd hys hyk hb29 hal hnew HS28 HS29 hp28 z2 z3 g1 g2 HX28 HOW28
  go_upto_region 27 with (fail)
  generalize w29.alloc (.cells #[.int .i64 (n : Int), .slice a5 k cap5, .bool false] 38) = w30 at *
  generalize w29.heap.size = gc at *
  refine wp_region_held_drew (S := fun w' => w'.cell? ⟨ga, 0, none⟩ = some (dP p) ∧ w'.cell? ⟨gb, 1, none⟩ = some (.slice a2 k cap2) ∧ w'.cell? ⟨gc, 1, none⟩ = some (.slice a5 k cap5) ∧ w'.cell? ⟨gc, 2, none⟩ = some (.bool false)) (by kernel_rfl) ?_ (fun hHeld => ?_)
  · exact hq
  generalize w30.drew = w31 at *
  clear hq
  refine take_wanted (i := 0) (v := ?_) rfl (by kernel_rfl) (by kernel_rfl) (by kernel_rfl) (fun _ _ _ h => h) (by rfl) ?_ (by assumption) ?_
  rotate_left
  · intro w hSw
    (try dsimp only at hSw)
    go_simp
    (try with_reducible rfl)
  simp only [Act.put, List.setIfInBounds_toArray, List.set_cons_zero, List.set_cons_succ]
  refine take_wanted (i := 1) (v := ?_) rfl (by kernel_rfl) (by kernel_rfl) (by kernel_rfl) (fun _ _ _ h => h) (by rfl) ?_ (by assumption) ?_
  rotate_left
  · intro w hSw
    (try dsimp only at hSw)
    go_simp
    (try with_reducible rfl)
  simp only [Act.put, List.setIfInBounds_toArray, List.set_cons_zero, List.set_cons_succ]
  refine take_wanted (i := 2) (v := ?_) rfl (by kernel_rfl) (by kernel_rfl) (by kernel_rfl) (fun _ _ _ h => h) (by rfl) ?_ (by assumption) ?_
  rotate_left
  · intro w hSw
    (try dsimp only at hSw)
    go_simp
    (try with_reducible rfl)
  simp only [Act.put, List.setIfInBounds_toArray, List.set_cons_zero, List.set_cons_succ]
  refine take_wanted (i := 3) (v := ?_) rfl (by kernel_rfl) (by kernel_rfl) (by kernel_rfl) (fun _ _ _ h => h) (by rfl) ?_ (by assumption) ?_
  rotate_left
  · intro w hSw
    (try dsimp only at hSw)
    go_simp
    (try with_reducible rfl)
  simp only [Act.put, List.setIfInBounds_toArray, List.set_cons_zero, List.set_cons_succ]
  refine take_wanted (i := 4) (v := ?_) rfl (by kernel_rfl) (by kernel_rfl) (by kernel_rfl) (fun _ _ _ h => h) (by rfl) ?_ (by assumption) ?_
  rotate_left
  · intro w hSw
    (try dsimp only at hSw)
    go_simp
    (try with_reducible rfl)
  simp only [Act.put, List.setIfInBounds_toArray, List.set_cons_zero, List.set_cons_succ]
  refine take_wanted (i := 5) (v := ?_) rfl (by kernel_rfl) (by kernel_rfl) (by kernel_rfl) (fun _ _ _ h => h) (by rfl) ?_ (by assumption) ?_
  rotate_left
  · intro w hSw
    (try dsimp only at hSw)
    go_simp
    (try with_reducible rfl)
  simp only [Act.put, List.setIfInBounds_toArray, List.set_cons_zero, List.set_cons_succ]
  refine take_wanted (i := 6) (v := ?_) rfl (by kernel_rfl) (by kernel_rfl) (by kernel_rfl) (fun _ _ _ h => h) (by rfl) ?_ (by assumption) ?_
  rotate_left
  · intro w hSw
    (try dsimp only at hSw)
    go_simp
    (try with_reducible rfl)
  simp only [Act.put, List.setIfInBounds_toArray, List.set_cons_zero, List.set_cons_succ]
  refine take_wanted (i := 7) (v := ?_) rfl (by kernel_rfl) (by kernel_rfl) (by kernel_rfl) (fun _ _ _ h => h) (by rfl) ?_ (by assumption) ?_
  rotate_left
  · intro w hSw
    (try dsimp only at hSw)
    go_simp
    (try with_reducible rfl)
  simp only [Act.put, List.setIfInBounds_toArray, List.set_cons_zero, List.set_cons_succ]
  refine take_wanted (i := 8) (v := ?_) rfl (by kernel_rfl) (by kernel_rfl) (by kernel_rfl) (fun _ _ _ h => h) (by rfl) ?_ (by assumption) ?_
  rotate_left
  · intro w hSw
    (try dsimp only at hSw)
    go_simp
    (try with_reducible rfl)
  simp only [Act.put, List.setIfInBounds_toArray, List.set_cons_zero, List.set_cons_succ]
  refine take_wanted (i := 9) (v := ?_) rfl (by kernel_rfl) (by kernel_rfl) (by kernel_rfl) (fun _ _ _ h => h) (by rfl) ?_ (by assumption) ?_
  rotate_left
  · intro w hSw
    (try dsimp only at hSw)
    go_simp
    (try with_reducible rfl)
  simp only [Act.put, List.setIfInBounds_toArray, List.set_cons_zero, List.set_cons_succ]
  refine take_wanted (i := 10) (v := ?_) rfl (by kernel_rfl) (by kernel_rfl) (by kernel_rfl) (fun _ _ _ h => h) (by rfl) ?_ (by assumption) ?_
  rotate_left
  · intro w hSw
    (try dsimp only at hSw)
    go_simp
    (try with_reducible rfl)
  simp only [Act.put, List.setIfInBounds_toArray, List.set_cons_zero, List.set_cons_succ]
  refine take_wanted (i := 11) (v := ?_) rfl (by kernel_rfl) (by kernel_rfl) (by kernel_rfl) (fun _ _ _ h => h) (by rfl) ?_ (by assumption) ?_
  rotate_left
  · intro w hSw
    (try dsimp only at hSw)
    go_simp
    (try with_reducible rfl)
  simp only [Act.put, List.setIfInBounds_toArray, List.set_cons_zero, List.set_cons_succ]
  have HSR := Lib.hid (SameRow_true ys xs (.slice a5 k cap5) (.slice a2 k cap2) w31 HY30.out HX30.out (by rw [HYS.out, HXS.out]) (by rw [HYK.out]; omega) HRX.out)
  refine take_only (i := 12) (by kernel_rfl) rfl (by rfl) (fun K hK => ?_)
  go_simp
  go_at_call 28
  refine (HSR.out).mono ?_
  rintro x w32 ⟨rfl, hb32⟩
  refine hK.out _ _ ?_ (fun hHeld => ?_)
  · exact Q4_below hHeld hb32
  clear hK K
  have HS32 := Lib.hid (HS30.out.below hb32)
  have HOW32 := Lib.hid (own_below5 HOW30.out hb32)
  clear hb32 HS30 HOW30 HSR HX30 HY30
  refine take_wanted (i := 13) (v := ?_) rfl (by kernel_rfl) (by kernel_rfl) (by kernel_rfl) (fun _ _ _ h => h) (by rfl) ?_ (by assumption) ?_
  rotate_left
  · intro w hSw
    (try dsimp only at hSw)
    go_simp
    (try with_reducible rfl)
  simp only [Act.put, List.setIfInBounds_toArray, List.set_cons_zero, List.set_cons_succ]
  refine take_wanted (i := 14) (v := ?_) rfl (by kernel_rfl) (by kernel_rfl) (by kernel_rfl) (fun _ _ _ h => h) (by rfl) ?_ (by assumption) ?_
  rotate_left
  · intro w hSw
    (try dsimp only at hSw)
    go_simp
    (try with_reducible rfl)
  simp only [Act.put, List.setIfInBounds_toArray, List.set_cons_zero, List.set_cons_succ]
  refine take_wanted (i := 15) (v := ?_) rfl (by kernel_rfl) (by kernel_rfl) (by kernel_rfl) (fun _ _ _ h => h) (by rfl) ?_ (by assumption) ?_
  rotate_left
  · intro w hSw
    (try dsimp only at hSw)
    go_simp
    (try with_reducible rfl)
  simp only [Act.put, List.setIfInBounds_toArray, List.set_cons_zero, List.set_cons_succ]
  refine take_wanted (i := 16) (v := ?_) rfl (by kernel_rfl) (by kernel_rfl) (by kernel_rfl) (fun _ _ _ h => h) (by rfl) ?_ (by assumption) ?_
  rotate_left
  · intro w hSw
    (try dsimp only at hSw)
    go_simp
    (try with_reducible rfl)
  simp only [Act.put, List.setIfInBounds_toArray, List.set_cons_zero, List.set_cons_succ]
  refine take_wanted (i := 17) (v := ?_) rfl (by kernel_rfl) (by kernel_rfl) (by kernel_rfl) (fun _ _ _ h => h) (by rfl) ?_ (by assumption) ?_
  rotate_left
  · intro w hSw
    (try dsimp only at hSw)
    go_simp
    (try with_reducible rfl)
  simp only [Act.put, List.setIfInBounds_toArray, List.set_cons_zero, List.set_cons_succ]
  refine take_wanted (i := 18) (v := ?_) rfl (by kernel_rfl) (by kernel_rfl) (by kernel_rfl) (fun _ _ _ h => h) (by rfl) ?_ (by assumption) ?_
  rotate_left
  · intro w hSw
    (try dsimp only at hSw)
    go_simp
    (try with_reducible rfl)
  simp only [Act.put, List.setIfInBounds_toArray, List.set_cons_zero, List.set_cons_succ]
  refine take_wanted (i := 19) (v := ?_) rfl (by kernel_rfl) (by kernel_rfl) (by kernel_rfl) (fun _ _ _ h => h) (by rfl) ?_ (by assumption) ?_
  rotate_left
  · intro w hSw
    (try dsimp only at hSw)
    go_simp
    (try with_reducible rfl)
  simp only [Act.put, List.setIfInBounds_toArray, List.set_cons_zero, List.set_cons_succ]
  have HTD : Hid (∀ w', D.But S28 w32 w' → ReadsR w' (.slice (if c4 = k then a4 else Option.map (fun x => x.add (k * 7)) a4) (N - k) (c4 - k)) ((es ++ fs).drop k)) := Lib.hid fun w' hb => by
    have h1 := reads_joined HV.out HVB.out (but_low HS32.out.bel hb HS32.out.lo) (own_but2 HOW32.out hb HOF.out)
    rw [HN.out, ← HLN.out] at h1
    have h2 := readsR_rest h1 (k := k) (by rw [HLN.out]; exact hNk)
    rw [HLN.out] at h2
    exact h2
  have HSD : Hid (∀ x ∈ (es ++ fs).drop k, E.Small x.1.b) := Lib.hid fun x hx => HSA.out x (List.mem_of_mem_drop hx)
  have hl2 : ((es ++ fs).drop k).length ≤ 100 := by rw [List.length_drop]; omega
  have HC3 := Lib.hid (Z.add 1 ((es ++ fs).drop k) _ 0 _ HS32.out.at_ HI24.out (by decide) (two_named _ _ _) (by omega) (by omega) HTD.out hl2 HSD.out HAG.out)
  clear HTD HSD hl2
  generalize (if c4 = k then a4 else Option.map (fun x => x.add (k * 7)) a4) = a6 at *
  refine take_only (i := 20) (by kernel_rfl) rfl (by rfl) (fun K hK => ?_)
  go_simp
  go_at_call 24
  refine (HC3.out).mono ?_
  rintro x w33 ⟨rfl, -, hb33⟩
  refine hK.out _ _ ?_ (fun hHeld => ?_)
  · exact Q4_but hHeld hb33 HS32.out.na HNG28.out HNC.out
  clear hK K
  have HB33 : Hid (Below w.heap.size w w33) := Lib.hid (but_low HS32.out.bel hb33 HS32.out.lo)
  clear hb33 HS32 HC3
  refine take_wanted (i := 21) (v := ?_) rfl (by kernel_rfl) (by kernel_rfl) (by kernel_rfl) (fun _ _ _ h => h) (by rfl) ?_ (by assumption) ?_
  rotate_left
  · intro w hSw
    (try dsimp only at hSw)
    go_simp
    (try with_reducible rfl)
  simp only [Act.put, List.setIfInBounds_toArray, List.set_cons_zero, List.set_cons_succ]
  refine take_wanted (i := 22) (v := ?_) rfl (by kernel_rfl) (by kernel_rfl) (by kernel_rfl) (fun _ _ _ h => h) (by rfl) ?_ (by assumption) ?_
  rotate_left
  · intro w hSw
    (try dsimp only at hSw)
    go_simp
    (try with_reducible rfl)
  simp only [Act.put, List.setIfInBounds_toArray, List.set_cons_zero, List.set_cons_succ]
  refine take_wanted (i := 23) (v := ?_) rfl (by kernel_rfl) (by kernel_rfl) (by kernel_rfl) (fun _ _ _ h => h) (by rfl) ?_ (by assumption) ?_
  rotate_left
  · intro w hSw
    (try dsimp only at hSw)
    go_simp
    (try with_reducible rfl)
  simp only [Act.put, List.setIfInBounds_toArray, List.set_cons_zero, List.set_cons_succ]
  refine wpAnyH_done (by kernel_rfl) ?_ _
  go_wp2
  go_ret
  exact ⟨rfl, HB33.out⟩
end Go.Proofs.YtpdnbpihkiijkaaGreatDoor.G
