/-
  The walk of the law ManifestEpochs over any disk that keeps its contracts.
-/
import Derived.Test.YtmfhipjceeijmaaManHelp
namespace Go.Proofs.Ytmfhipjceeijmaa.A
open Go.RowKit
open D (Tx ReadsI i64B readsI_below dP)
attribute [local go_sem] ext_Bd ext_Bl ext_Bt toList_B add_B size_B get_Bt

theorem OnA.reads {C : D.DC} {w : World} {room p ga : Nat} {wr : World} {l : List D.F} {S : Nat → Prop} (h : OnA C w room p ga wr l S) {v : Value} {zs : List Int} (hv : ReadsI w v zs) : ∀ w', D.But S wr w' → ReadsI w' v zs := fun _ hb => readsI_below hv (but_low h.bel hb h.lo)
theorem rem3 (k : Nat) : Int.tmod (k : Int) 3 = ((k % 3 : Nat) : Int) := by rw [Int.tmod_eq_emod_of_nonneg (by omega)]; omega
set_option maxHeartbeats 4000000 in
set_option maxRecDepth 100000 in
theorem epochs_walk (C : D.DC) (zs ks : List Int) (va vk : Value) (w : World) (hv : ReadsI w va zs) (hk : ReadsI w vk ks) :
    Calls Try.prog 4 #[va, vk] w fun x w' => x = .returned (.bool true) ∧ Below w.heap.size w w' := by
  have HV := Lib.hid hv
  have HK := Lib.hid hk
  obtain ⟨aa, ca, rfl, hx⟩ := hv
  obtain ⟨ak, ck, rfl, -⟩ := hk
  have HX := Lib.hid hx
  clear hx
  go_enter Try.func4, Try.ntmps4
  go_wp2_with fail
  refine (shown10_l C w).mono ?_
  rintro x w1 ⟨rfl, hb1⟩
  have HB1 := Lib.hid hb1
  clear hb1
  go_wp2_with fail
  refine (begun10_l C (bs := w.heap.size) 100000 w1 HB1.out.size (by omega) (by omega)).mono ?_
  rintro x w2 ⟨⟨p, m, S, rfl, hd, -, -, -⟩, hb2⟩
  have HB2 := Lib.hid (HB1.out.trans (hb2.mono HB1.out.size))
  have hal : Below w2.heap.size w2 (w2.alloc (.cells #[dP p, .pointer (some ⟨m, 0, none⟩)] 28)) := (Below.refl _ _).alloc (Nat.le_refl _) _
  have hnew := heap_alloc_new w2 (.cells #[dP p, .pointer (some ⟨m, 0, none⟩)] 28)
  have HO : Hid (OnA C w 100000 p w2.heap.size (w2.alloc (.cells #[dP p, .pointer (some ⟨m, 0, none⟩)] 28)) [] S) := Lib.hid ⟨C.below hd hal, by rw [blkA hnew]; rfl, fun h => by have := (C.low hd h).2; omega, HB2.out.trans (hal.mono HB2.out.size)⟩
  clear hd hb2 hal hnew HB1 HB2
  go_upto_region 3 with (fail)
  generalize w2.alloc (.cells #[dP p, .pointer (some ⟨m, 0, none⟩)] 28) = w3 at *
  generalize w2.heap.size = ga at *
  by_cases hl : 100 < zs.length
  · have hli : (100 : Int) < (zs.length : Int) := by omega
    go_wp2
    go_ret
    exact ⟨rfl, HO.out.bel⟩
  have hli : ¬ (100 : Int) < (zs.length : Int) := by omega
  by_cases hl2 : 30 < ks.length
  · have hli2 : (30 : Int) < (ks.length : Int) := by omega
    go_wp2
    go_ret
    exact ⟨rfl, HO.out.bel⟩
  have hli2 : ¬ (30 : Int) < (ks.length : Int) := by omega
  go_wp2
  go_loopw [9, 8] (fun i n wr => ∃ (k now : Nat) (l : List D.F) (S : Nat → Prop), i = .int .i64 (k : Int) ∧ n = .int .i64 (now : Int) ∧ k ≤ zs.length ∧ now ≤ far ∧ Hid (Ep l now) ∧ Hid (OnA C w 100000 p ga wr l S)) (fun i _ _ => zs.length - (intOf i).toNat)
  case atStart => exact ⟨0, 0, [], S, rfl, rfl, Nat.zero_le _, Nat.zero_le _, Lib.hid Ep.start, HO⟩
  case round =>
    clear HO
    obtain ⟨k, now, l, S, rfl, rfl, hk, hnow, HE, HO⟩ := hrel
    by_cases hlt : k < zs.length
    · have hi1 : (k : Int) < (zs.length : Int) := by omega
      obtain ⟨⟨hz1, hz2⟩, b1, o1, rfl, hc⟩ := HX.out k hlt
      have HCW := Lib.hid hc
      have q1 := keepsA HO.out.bel _ _ hc
      have c0 := HO.out.pa
      have hnow2 : (now : Int) ≤ 274877906944 := by unfold far at hnow; omega
      have h3 := rem3 k
      clear hc
      generalize zs[k] = z at *
      obtain ⟨⟨e, l2⟩, hre⟩ : ∃ q, raiseD 100000 z l = q := ⟨_, rfl⟩
      have HR := Lib.hid hre
      have HCASE : Hid ((e = 1 ∧ l2 = l ∧ (z < 1 ∨ 274877906944 < z)) ∨ (e = 10 ∧ l2 = l ∧ 1 ≤ z ∧ z ≤ 274877906944 ∧ z < now) ∨ (e = 0 ∧ 1 ≤ z ∧ z ≤ 274877906944 ∧ (now : Int) ≤ z ∧ Ep l2 z.toNat)) := Lib.hid (by
        by_cases hz : z < 1 ∨ (far : Int) < z
        · rw [raise_arg hz] at hre
          cases hre
          exact .inl ⟨rfl, rfl, by unfold far at hz; exact hz⟩
        · have hzf : z ≤ 274877906944 := by unfold far at hz; omega
          by_cases hn : z < now
          · rw [HE.out.low (by omega) (by omega) hn] at hre
            cases hre
            exact .inr (.inl ⟨rfl, rfl, by omega, hzf, hn⟩)
          · obtain ⟨l3, hr, he⟩ := HE.out.raise (room := 100000) (by omega) (by omega) (by omega) (by omega : (now : Int) ≤ z)
            rw [hr] at hre
            cases hre
            exact .inr (.inr ⟨rfl, by omega, hzf, by omega, he⟩))
      clear hre
      go_wp2
      go_cut [10] (fun x wx => x = .int .i64 (e : Int) ∧ ∃ S2, Hid (OnA C w 100000 p ga wx l2 S2))
      case first =>
        go_region_law
          (first
            | (go_simp; go_at_call 14; refine (Raise_l C z e l2 (by first | exact HO.out.at_ | exact HO.out.drew.at_) (HE.out.inv (by omega)) (by omega) HR.out).mono ?_; rintro x w4 ⟨rfl, ⟨S4, hA4, hg4⟩, hb4⟩; have ho4 := OnA.next (by first | exact HO.out | exact HO.out.drew) hA4 hg4 hb4))
        all_goals
          go_wp2
          go_meet
          exact ⟨rfl, _, Lib.hid ho4⟩
      case rest =>
      clear HO q1 c0
      obtain ⟨rfl, S4, HO4⟩ := hcut
      have q1 := keepsA HO4.out.bel _ _ HCW.out
      have c4 := HO4.out.pa
      rcases HCASE.out with ⟨rfl, rfl, hz3⟩ | ⟨rfl, rfl, hz3, hz4, hz5⟩ | ⟨rfl, hz3, hz4, hz5, hep⟩
      · have hzz : z < 1 ∨ (¬ z < 1 ∧ 274877906944 < z) := by omega
        clear HCASE HR
        rcases hzz with hz6 | ⟨hz6, hz7⟩
        · have HE4 := HE
          by_cases h32 : k % 3 = 2
          · have h3t : (Int.tmod (k : Int) 3 == 2) = true := by rw [h3, h32]; rfl
            rw [h32] at h3
            go_wp2_with fail
            refine (C.crash ks _ HO4.out.at_ (HE4.out.inv (by omega)) (by omega) (HO4.out.reads HK.out) (by omega)).mono ?_
            rintro x w7 ⟨rfl, ⟨S7, hA7, hg7⟩, hb7⟩
            have HO7 := Lib.hid (HO4.out.next hA7 hg7 hb7)
            have HE7 := Lib.hid (HE4.out.crash ks)
            obtain ⟨l7, hl7⟩ : ∃ l7, D.crash ks l2 = l7 := ⟨_, rfl⟩
            rw [hl7] at HO7 HE7
            clear hA7 hg7 hb7 c4 hl7 HO4 HE4 q1
            obtain ⟨⟨e1, e2, e3⟩, heq⟩ : ∃ q, epochD l7 = q := ⟨_, rfl⟩
            have he1 : e1 = now := by have h := HE7.out.epoch; rw [heq] at h; exact h
            subst he1
            have HEQ := Lib.hid heq
            have HU := Lib.hid HE7.out.used
            clear heq
            have c7 := HO7.out.pa
            go_wp2_with fail
            refine (Epoch_l C _ e2 e3 HO7.out.at_ (HE7.out.inv (by omega)) (by omega) HEQ.out).mono ?_
            rintro x w8 ⟨rfl, hb8⟩
            have HO8 := Lib.hid (HO7.out.below hb8)
            clear hb8 c7 HO7
            have c8 := HO8.out.pa
            go_wp2_with fail
            refine (C.used HO8.out.at_ (HE7.out.inv (by omega)) (by omega)).mono ?_
            rintro x w9 ⟨rfl, hb9⟩
            have HO9 := Lib.hid (HO8.out.below hb9)
            clear hb9 c8 HO8
            have hu := HU.out
            have hui : ¬ (336 : Int) < (D.used l7 : Int) := by omega
            clear hu
            generalize D.used l7 = uu at *
            go_wp2
            go_roundw
            case rel => exact ⟨k + 1, _, l7, _, by go_num, rfl, by omega, by first | assumption | (unfold far; omega), HE7, HO9⟩
            case measure => simp [intOf]; omega
          · have h3t : (Int.tmod (k : Int) 3 == 2) = false := by rw [h3]; exact beq_eq_false_iff_ne.2 (by omega)
            have h3n : ¬ ((k % 3 : Nat) : Int) = 2 := by omega
            have HO7 := HO4
            have HE7 := HE4
            obtain ⟨l7, hl7⟩ : ∃ l7, l2 = l7 := ⟨_, rfl⟩
            rw [hl7] at HO7 HE7
            clear HO4 HE4 hl7
            obtain ⟨⟨e1, e2, e3⟩, heq⟩ : ∃ q, epochD l7 = q := ⟨_, rfl⟩
            have he1 : e1 = now := by have h := HE7.out.epoch; rw [heq] at h; exact h
            subst he1
            have HEQ := Lib.hid heq
            have HU := Lib.hid HE7.out.used
            clear heq
            go_wp2_with fail
            refine (Epoch_l C _ e2 e3 HO7.out.at_ (HE7.out.inv (by omega)) (by omega) HEQ.out).mono ?_
            rintro x w8 ⟨rfl, hb8⟩
            have HO8 := Lib.hid (HO7.out.below hb8)
            clear hb8 c4 HO7
            have c8 := HO8.out.pa
            go_wp2_with fail
            refine (C.used HO8.out.at_ (HE7.out.inv (by omega)) (by omega)).mono ?_
            rintro x w9 ⟨rfl, hb9⟩
            have HO9 := Lib.hid (HO8.out.below hb9)
            clear hb9 c8 HO8
            have hu := HU.out
            have hui : ¬ (336 : Int) < (D.used l7 : Int) := by omega
            clear hu
            generalize D.used l7 = uu at *
            go_wp2
            go_roundw
            case rel => exact ⟨k + 1, _, l7, _, by go_num, rfl, by omega, by first | assumption | (unfold far; omega), HE7, HO9⟩
            case measure => simp [intOf]; omega
        · have HE4 := HE
          by_cases h32 : k % 3 = 2
          · have h3t : (Int.tmod (k : Int) 3 == 2) = true := by rw [h3, h32]; rfl
            rw [h32] at h3
            go_wp2_with fail
            refine (C.crash ks _ HO4.out.at_ (HE4.out.inv (by omega)) (by omega) (HO4.out.reads HK.out) (by omega)).mono ?_
            rintro x w7 ⟨rfl, ⟨S7, hA7, hg7⟩, hb7⟩
            have HO7 := Lib.hid (HO4.out.next hA7 hg7 hb7)
            have HE7 := Lib.hid (HE4.out.crash ks)
            obtain ⟨l7, hl7⟩ : ∃ l7, D.crash ks l2 = l7 := ⟨_, rfl⟩
            rw [hl7] at HO7 HE7
            clear hA7 hg7 hb7 c4 hl7 HO4 HE4 q1
            obtain ⟨⟨e1, e2, e3⟩, heq⟩ : ∃ q, epochD l7 = q := ⟨_, rfl⟩
            have he1 : e1 = now := by have h := HE7.out.epoch; rw [heq] at h; exact h
            subst he1
            have HEQ := Lib.hid heq
            have HU := Lib.hid HE7.out.used
            clear heq
            have c7 := HO7.out.pa
            go_wp2_with fail
            refine (Epoch_l C _ e2 e3 HO7.out.at_ (HE7.out.inv (by omega)) (by omega) HEQ.out).mono ?_
            rintro x w8 ⟨rfl, hb8⟩
            have HO8 := Lib.hid (HO7.out.below hb8)
            clear hb8 c7 HO7
            have c8 := HO8.out.pa
            go_wp2_with fail
            refine (C.used HO8.out.at_ (HE7.out.inv (by omega)) (by omega)).mono ?_
            rintro x w9 ⟨rfl, hb9⟩
            have HO9 := Lib.hid (HO8.out.below hb9)
            clear hb9 c8 HO8
            have hu := HU.out
            have hui : ¬ (336 : Int) < (D.used l7 : Int) := by omega
            clear hu
            generalize D.used l7 = uu at *
            go_wp2
            go_roundw
            case rel => exact ⟨k + 1, _, l7, _, by go_num, rfl, by omega, by first | assumption | (unfold far; omega), HE7, HO9⟩
            case measure => simp [intOf]; omega
          · have h3t : (Int.tmod (k : Int) 3 == 2) = false := by rw [h3]; exact beq_eq_false_iff_ne.2 (by omega)
            have h3n : ¬ ((k % 3 : Nat) : Int) = 2 := by omega
            have HO7 := HO4
            have HE7 := HE4
            obtain ⟨l7, hl7⟩ : ∃ l7, l2 = l7 := ⟨_, rfl⟩
            rw [hl7] at HO7 HE7
            clear HO4 HE4 hl7
            obtain ⟨⟨e1, e2, e3⟩, heq⟩ : ∃ q, epochD l7 = q := ⟨_, rfl⟩
            have he1 : e1 = now := by have h := HE7.out.epoch; rw [heq] at h; exact h
            subst he1
            have HEQ := Lib.hid heq
            have HU := Lib.hid HE7.out.used
            clear heq
            go_wp2_with fail
            refine (Epoch_l C _ e2 e3 HO7.out.at_ (HE7.out.inv (by omega)) (by omega) HEQ.out).mono ?_
            rintro x w8 ⟨rfl, hb8⟩
            have HO8 := Lib.hid (HO7.out.below hb8)
            clear hb8 c4 HO7
            have c8 := HO8.out.pa
            go_wp2_with fail
            refine (C.used HO8.out.at_ (HE7.out.inv (by omega)) (by omega)).mono ?_
            rintro x w9 ⟨rfl, hb9⟩
            have HO9 := Lib.hid (HO8.out.below hb9)
            clear hb9 c8 HO8
            have hu := HU.out
            have hui : ¬ (336 : Int) < (D.used l7 : Int) := by omega
            clear hu
            generalize D.used l7 = uu at *
            go_wp2
            go_roundw
            case rel => exact ⟨k + 1, _, l7, _, by go_num, rfl, by omega, by first | assumption | (unfold far; omega), HE7, HO9⟩
            case measure => simp [intOf]; omega
      · have hz6 : ¬ z < 1 := by omega
        have hz7 : ¬ (274877906944 : Int) < z := by omega
        clear HCASE HR
        have HE4 := HE
        by_cases h32 : k % 3 = 2
        · have h3t : (Int.tmod (k : Int) 3 == 2) = true := by rw [h3, h32]; rfl
          rw [h32] at h3
          go_wp2_with fail
          refine (C.crash ks _ HO4.out.at_ (HE4.out.inv (by omega)) (by omega) (HO4.out.reads HK.out) (by omega)).mono ?_
          rintro x w7 ⟨rfl, ⟨S7, hA7, hg7⟩, hb7⟩
          have HO7 := Lib.hid (HO4.out.next hA7 hg7 hb7)
          have HE7 := Lib.hid (HE4.out.crash ks)
          obtain ⟨l7, hl7⟩ : ∃ l7, D.crash ks l2 = l7 := ⟨_, rfl⟩
          rw [hl7] at HO7 HE7
          clear hA7 hg7 hb7 c4 hl7 HO4 HE4 q1
          obtain ⟨⟨e1, e2, e3⟩, heq⟩ : ∃ q, epochD l7 = q := ⟨_, rfl⟩
          have he1 : e1 = now := by have h := HE7.out.epoch; rw [heq] at h; exact h
          subst he1
          have HEQ := Lib.hid heq
          have HU := Lib.hid HE7.out.used
          clear heq
          have c7 := HO7.out.pa
          go_wp2_with fail
          refine (Epoch_l C _ e2 e3 HO7.out.at_ (HE7.out.inv (by omega)) (by omega) HEQ.out).mono ?_
          rintro x w8 ⟨rfl, hb8⟩
          have HO8 := Lib.hid (HO7.out.below hb8)
          clear hb8 c7 HO7
          have c8 := HO8.out.pa
          go_wp2_with fail
          refine (C.used HO8.out.at_ (HE7.out.inv (by omega)) (by omega)).mono ?_
          rintro x w9 ⟨rfl, hb9⟩
          have HO9 := Lib.hid (HO8.out.below hb9)
          clear hb9 c8 HO8
          have hu := HU.out
          have hui : ¬ (336 : Int) < (D.used l7 : Int) := by omega
          clear hu
          generalize D.used l7 = uu at *
          go_wp2
          go_roundw
          case rel => exact ⟨k + 1, _, l7, _, by go_num, rfl, by omega, by first | assumption | (unfold far; omega), HE7, HO9⟩
          case measure => simp [intOf]; omega
        · have h3t : (Int.tmod (k : Int) 3 == 2) = false := by rw [h3]; exact beq_eq_false_iff_ne.2 (by omega)
          have h3n : ¬ ((k % 3 : Nat) : Int) = 2 := by omega
          have HO7 := HO4
          have HE7 := HE4
          obtain ⟨l7, hl7⟩ : ∃ l7, l2 = l7 := ⟨_, rfl⟩
          rw [hl7] at HO7 HE7
          clear HO4 HE4 hl7
          obtain ⟨⟨e1, e2, e3⟩, heq⟩ : ∃ q, epochD l7 = q := ⟨_, rfl⟩
          have he1 : e1 = now := by have h := HE7.out.epoch; rw [heq] at h; exact h
          subst he1
          have HEQ := Lib.hid heq
          have HU := Lib.hid HE7.out.used
          clear heq
          go_wp2_with fail
          refine (Epoch_l C _ e2 e3 HO7.out.at_ (HE7.out.inv (by omega)) (by omega) HEQ.out).mono ?_
          rintro x w8 ⟨rfl, hb8⟩
          have HO8 := Lib.hid (HO7.out.below hb8)
          clear hb8 c4 HO7
          have c8 := HO8.out.pa
          go_wp2_with fail
          refine (C.used HO8.out.at_ (HE7.out.inv (by omega)) (by omega)).mono ?_
          rintro x w9 ⟨rfl, hb9⟩
          have HO9 := Lib.hid (HO8.out.below hb9)
          clear hb9 c8 HO8
          have hu := HU.out
          have hui : ¬ (336 : Int) < (D.used l7 : Int) := by omega
          clear hu
          generalize D.used l7 = uu at *
          go_wp2
          go_roundw
          case rel => exact ⟨k + 1, _, l7, _, by go_num, rfl, by omega, by first | assumption | (unfold far; omega), HE7, HO9⟩
          case measure => simp [intOf]; omega
      · have hz6 : ¬ z < 1 := by omega
        have hz7 : ¬ (274877906944 : Int) < z := by omega
        have hz8 : ¬ z < (now : Int) := by omega
        obtain ⟨zn, hzn⟩ : ∃ zn : Nat, z = (zn : Int) := ⟨z.toNat, by omega⟩
        have HEZ : Hid (Ep l2 zn) := Lib.hid (by rw [hzn, Int.toNat_natCast] at hep; exact hep)
        have hzf : zn ≤ far := by unfold far; omega
        clear hep HCASE HR
        subst hzn
        have HE4 := HEZ
        by_cases h32 : k % 3 = 2
        · have h3t : (Int.tmod (k : Int) 3 == 2) = true := by rw [h3, h32]; rfl
          rw [h32] at h3
          go_wp2_with fail
          refine (C.crash ks _ HO4.out.at_ (HE4.out.inv (by omega)) (by omega) (HO4.out.reads HK.out) (by omega)).mono ?_
          rintro x w7 ⟨rfl, ⟨S7, hA7, hg7⟩, hb7⟩
          have HO7 := Lib.hid (HO4.out.next hA7 hg7 hb7)
          have HE7 := Lib.hid (HE4.out.crash ks)
          obtain ⟨l7, hl7⟩ : ∃ l7, D.crash ks l2 = l7 := ⟨_, rfl⟩
          rw [hl7] at HO7 HE7
          clear hA7 hg7 hb7 c4 hl7 HO4 HE4 q1
          obtain ⟨⟨e1, e2, e3⟩, heq⟩ : ∃ q, epochD l7 = q := ⟨_, rfl⟩
          have he1 : e1 = zn := by have h := HE7.out.epoch; rw [heq] at h; exact h
          subst he1
          have HEQ := Lib.hid heq
          have HU := Lib.hid HE7.out.used
          clear heq
          have c7 := HO7.out.pa
          go_wp2_with fail
          refine (Epoch_l C _ e2 e3 HO7.out.at_ (HE7.out.inv (by omega)) (by omega) HEQ.out).mono ?_
          rintro x w8 ⟨rfl, hb8⟩
          have HO8 := Lib.hid (HO7.out.below hb8)
          clear hb8 c7 HO7
          have c8 := HO8.out.pa
          go_wp2_with fail
          refine (C.used HO8.out.at_ (HE7.out.inv (by omega)) (by omega)).mono ?_
          rintro x w9 ⟨rfl, hb9⟩
          have HO9 := Lib.hid (HO8.out.below hb9)
          clear hb9 c8 HO8
          have hu := HU.out
          have hui : ¬ (336 : Int) < (D.used l7 : Int) := by omega
          clear hu
          generalize D.used l7 = uu at *
          go_wp2
          go_roundw
          case rel => exact ⟨k + 1, _, l7, _, by go_num, rfl, by omega, by first | assumption | (unfold far; omega), HE7, HO9⟩
          case measure => simp [intOf]; omega
        · have h3t : (Int.tmod (k : Int) 3 == 2) = false := by rw [h3]; exact beq_eq_false_iff_ne.2 (by omega)
          have h3n : ¬ ((k % 3 : Nat) : Int) = 2 := by omega
          have HO7 := HO4
          have HE7 := HE4
          obtain ⟨l7, hl7⟩ : ∃ l7, l2 = l7 := ⟨_, rfl⟩
          rw [hl7] at HO7 HE7
          clear HO4 HE4 hl7
          obtain ⟨⟨e1, e2, e3⟩, heq⟩ : ∃ q, epochD l7 = q := ⟨_, rfl⟩
          have he1 : e1 = zn := by have h := HE7.out.epoch; rw [heq] at h; exact h
          subst he1
          have HEQ := Lib.hid heq
          have HU := Lib.hid HE7.out.used
          clear heq
          go_wp2_with fail
          refine (Epoch_l C _ e2 e3 HO7.out.at_ (HE7.out.inv (by omega)) (by omega) HEQ.out).mono ?_
          rintro x w8 ⟨rfl, hb8⟩
          have HO8 := Lib.hid (HO7.out.below hb8)
          clear hb8 c4 HO7
          have c8 := HO8.out.pa
          go_wp2_with fail
          refine (C.used HO8.out.at_ (HE7.out.inv (by omega)) (by omega)).mono ?_
          rintro x w9 ⟨rfl, hb9⟩
          have HO9 := Lib.hid (HO8.out.below hb9)
          clear hb9 c8 HO8
          have hu := HU.out
          have hui : ¬ (336 : Int) < (D.used l7 : Int) := by omega
          clear hu
          generalize D.used l7 = uu at *
          go_wp2
          go_roundw
          case rel => exact ⟨k + 1, _, l7, _, by go_num, rfl, by omega, by first | assumption | (unfold far; omega), HE7, HO9⟩
          case measure => simp [intOf]; omega
    · go_wp2
      go_ret
      exact ⟨rfl, HO.out.bel⟩
end Go.Proofs.Ytmfhipjceeijmaa.A
