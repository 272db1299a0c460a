/-
  The walk of the law ManifestKeeps over any disk that keeps its contracts.
-/
import Derived.Test.YtmfhipjceeijmaaManHelp
namespace Go.Proofs.Ytmfhipjceeijmaa.A
open Go.RowKit
open D (Tx ReadsI i64B readsI_below dP)
attribute [local go_sem] ext_Bd ext_Bl ext_Bt toList_B add_B size_B get_Bt

/-- A disk at work, and the law's block that holds what was saved last. -/
structure NowA (C : D.DC) (w0 : World) (room p ga gn : Nat) (wr : World) (l : List D.F) (S : Nat → Prop) (next : Int) (v : Value) : Prop where
  on : OnA C w0 room p ga wr l S
  ng : ¬ S gn
  lo : w0.heap.size ≤ gn
  ne : gn ≠ ga
  blk : wr.heap[gn]? = some (.cells #[.int .i64 next, v] 33 (0, 0))
section
variable {C : D.DC} {w0 : World} {room p ga gn : Nat} {wr w' : World} {l l2 : List D.F} {S S2 : Nat → Prop} {nx1 nx2 : Int} {v v2 : Value}
theorem NowA.next (h : NowA C w0 room p ga gn wr l S nx1 v) (hd : C.At w0.heap.size w' p room l2 S2) (hg : D.Grow S wr S2) (hb : D.But S wr w') : NowA C w0 room p ga gn w' l2 S2 nx1 v :=
  ⟨h.on.next hd hg hb, offA hg (lt_of_block h.blk) h.ng, h.lo, h.ne, (hb.block _ (lt_of_block h.blk) h.ng).trans h.blk⟩
theorem NowA.below (h : NowA C w0 room p ga gn wr l S nx1 v) (hb : Below wr.heap.size wr w') : NowA C w0 room p ga gn w' l S nx1 v := h.next (C.below h.on.at_ hb) (fun _ h => .inl h) (D.But.of_below hb)
theorem NowA.store (h : NowA C w0 room p ga gn wr l S nx1 v) : NowA C w0 room p ga gn ((wr.setCell ⟨gn, 0, none⟩ (.int .i64 nx2)).setCell ⟨gn, 1, none⟩ v2) l S nx2 v2 := by
  have hk : ∀ k, k ≠ gn → ((wr.setCell ⟨gn, 0, none⟩ (.int .i64 nx2)).setCell ⟨gn, 1, none⟩ v2).heap[k]? = wr.heap[k]? := fun k hk => by
    rw [Below.heap_setCell _ _ _ _ (by exact hk), Below.heap_setCell _ _ _ _ (by exact hk)]
  refine ⟨⟨C.keep h.on.at_ (by simp) fun k hs => hk k fun e => h.ng (e ▸ hs), ?_, h.on.na, belowA h.on.bel h.lo _ _⟩, h.ng, h.lo, h.ne, ?_⟩
  · rw [World.cell?_of_block (w := wr) (hk ga h.ne.symm)]
    exact h.on.pa
  · rw [setA (setA h.blk 0 (.int .i64 nx2)) 1 v2]
    rfl
end
theorem OnA.reads2 {C : D.DC} {w : World} {room p ga : Nat} {wr : World} {l : List D.F} {S : Nat → Prop} (h : OnA C w room p ga wr l S) {v : Value} {zs : List Int} (hv : ReadsI w v zs) : ∀ w', D.But S wr w' → ReadsI w' v zs := fun _ hb => readsI_below hv (but_low h.bel hb h.lo)
set_option maxHeartbeats 4000000 in
set_option maxRecDepth 100000 in
theorem keeps_walk (C : D.DC) (room : Int) (xs : List Ls) (ks : List Int) (vl vk : Value) (w : World) (hr : i64B room) (hv : ReadsII w vl xs) (hk : ReadsI w vk ks) :
    Calls Try.prog 3 #[.int .i64 room, vl, vk] w fun x w' => x = .returned (.bool true) ∧ Below w.heap.size w w' := by
  have HK := Lib.hid hk
  obtain ⟨aa, ca, rfl, hx⟩ := hv
  obtain ⟨ak, ck, rfl, -⟩ := hk
  have HX := Lib.hid hx
  clear hx
  obtain ⟨kk, hkk⟩ : ∃ kk, pickN room 500 = kk := ⟨_, rfl⟩
  have hkl : kk < 500 := by rw [← hkk]; exact pickN_lt _ (by omega)
  have HKK := Lib.hid hkk
  clear hkk
  go_enter Try.func3, Try.ntmps3
  go_wp2_with fail
  refine (shown10_l C w).mono ?_
  rintro x w1 ⟨rfl, hb1⟩
  have HB1 := Lib.hid hb1
  clear hb1
  go_wp2_with fail
  refine (pick10_l room 500 kk w1 hr (by omega) (by omega) HKK).mono ?_
  rintro x w1 ⟨rfl, rfl⟩
  have hrm : (30 : Int) + (kk : Int) = ((30 + kk : Nat) : Int) := by omega
  have HRM := Lib.hid hrm
  clear hrm
  go_wp2_with fail
  rw [HRM.out]
  obtain ⟨R, hR⟩ : ∃ R, 30 + kk = R := ⟨_, rfl⟩
  rw [hR]
  have hR1 : 30 ≤ R := by omega
  have hR2 : R ≤ 600 := by omega
  clear hR HRM
  refine (begun10_l C (bs := w.heap.size) R w1 HB1.out.size (by omega) (by omega)).mono ?_
  rintro x w2 ⟨⟨p, m, S, rfl, hd, -, -, -⟩, hb2⟩
  have HB2 := Lib.hid (HB1.out.trans (hb2.mono HB1.out.size))
  have hal : Below w2.heap.size w2 (w2.alloc (.cells #[dP p, .pointer (some ⟨m, 0, none⟩)] 28)) := (Below.refl _ _).alloc (Nat.le_refl _) _
  have hnew := heap_alloc_new w2 (.cells #[dP p, .pointer (some ⟨m, 0, none⟩)] 28)
  have HO : Hid (OnA C w R p w2.heap.size (w2.alloc (.cells #[dP p, .pointer (some ⟨m, 0, none⟩)] 28)) [] S) := Lib.hid ⟨C.below hd hal, by rw [blkA hnew]; rfl, fun h => by have := (C.low hd h).2; omega, HB2.out.trans (hal.mono HB2.out.size)⟩
  have HGA : Hid (w2.heap.size < (w2.alloc (.cells #[dP p, .pointer (some ⟨m, 0, none⟩)] 28)).heap.size) := Lib.hid (by simp)
  clear hd hb2 hal hnew HB1 HB2
  go_upto_region 3 with (fail)
  generalize w2.alloc (.cells #[dP p, .pointer (some ⟨m, 0, none⟩)] 28) = w3 at *
  generalize w2.heap.size = ga at *
  by_cases hl : 30 < xs.length
  · have hli : (30 : Int) < (xs.length : Int) := by omega
    go_wp2
    go_ret
    exact ⟨rfl, HO.out.bel⟩
  have hli : ¬ (30 : Int) < (xs.length : Int) := by omega
  by_cases hl2 : 30 < ks.length
  · have hli2 : (30 : Int) < (ks.length : Int) := by omega
    go_wp2
    go_ret
    exact ⟨rfl, HO.out.bel⟩
  have hli2 : ¬ (30 : Int) < (ks.length : Int) := by omega
  have hal : Below w3.heap.size w3 (w3.alloc (.cells #[.int .i64 1, .slice none 0 0] 33)) := (Below.refl _ _).alloc (Nat.le_refl _) _
  have hnew := heap_alloc_new w3 (.cells #[.int .i64 1, .slice none 0 0] 33)
  have HN0 : Hid (NowA C w R p ga w3.heap.size (w3.alloc (.cells #[.int .i64 1, .slice none 0 0] 33)) [] S 1 (.slice none 0 0)) := Lib.hid ⟨HO.out.below hal, fun h => by have := (C.low HO.out.at_ h).2; omega, HO.out.bel.size, by have := HGA.out; omega, hnew⟩
  clear hal hnew HGA HO
  go_upto_region 6 with (fail)
  generalize w3.alloc (.cells #[.int .i64 1, .slice none 0 0] 33) = w4 at *
  generalize w3.heap.size = gn at *
  go_wp2
  go_loopw [11] (fun i wr => ∃ (k : Nat) (next : Int) (segs : List Int) (v : Value) (l : List D.F) (S : Nat → Prop), i = .int .i64 (k : Int) ∧ k ≤ xs.length ∧ Hid (Kp R l next segs) ∧ Hid (ReadsI w v segs) ∧ Hid (NowA C w R p ga gn wr l S next v)) (fun i _ => xs.length - (intOf i).toNat)
  case atStart => exact ⟨0, 1, [], _, [], S, rfl, Nat.zero_le _, Lib.hid (Kp.start R), Lib.hid ⟨none, 0, rfl, fun i hi => by simp at hi⟩, HN0⟩
  case round =>
    clear HN0
    obtain ⟨k, next, segs, v, l, S, rfl, hk, HKP, HRV, HN⟩ := hrel
    by_cases hlt : k < xs.length
    · have hi1 : (k : Int) < (xs.length : Int) := by omega
      obtain ⟨hrx, b1, o1, rfl, hc⟩ := HX.out k hlt
      have HRX := Lib.hid hrx
      have HCW := Lib.hid hc
      have q1 := keepsA HN.out.on.bel _ _ hc
      obtain ⟨a2, c2, hv2, hx2⟩ := hrx
      have HX2 := Lib.hid hx2
      clear hc hx2
      generalize hxk : xs[k] = xk at *
      obtain ⟨zs, vz⟩ := xk
      dsimp only at *
      subst hv2
      clear hxk
      by_cases h40 : 40 < zs.length
      · have h40i : (40 : Int) < (zs.length : Int) := by omega
        go_wp2
        go_ret
        exact ⟨rfl, HN.out.on.bel⟩
      have h40i : ¬ (40 : Int) < (zs.length : Int) := by omega
      obtain ⟨av, cv, hvv, -⟩ := HRV.out
      subst hvv
      go_wp2
      go_loopw [13, 12] (fun j n w5 => ∃ (jj : Nat) (nx : Int), j = .int .i64 (jj : Int) ∧ n = .int .i64 nx ∧ jj ≤ zs.length ∧ (1 ≤ nx ∧ nx ≤ 536870913) ∧ wr = w5) (fun j _ _ => zs.length - (intOf j).toNat)
      case atStart => exact ⟨0, 1, rfl, rfl, Nat.zero_le _, by omega, rfl⟩
      case round =>
        obtain ⟨j, nx, rfl, rfl, hj, ⟨hnx1, hnx2⟩, rfl⟩ := hrel
        by_cases hjl : j < zs.length
        · have hj1 : (j : Int) < (zs.length : Int) := by omega
          obtain ⟨⟨hz1, hz2⟩, b3, o3, rfl, hc3⟩ := HX2.out j hjl
          have q3 := keepsA HN.out.on.bel _ _ hc3
          clear hc3
          generalize zs[j] = z at *
          by_cases hm1 : 536870912 < z
          · by_cases hm2 : nx < 536870913
            · go_wp2
              go_roundw
              case rel => exact ⟨j + 1, _, by go_num, rfl, by omega, by omega, by first | trivial | rfl⟩
              case measure => simp [intOf]; omega
            · have hm3 : nx = 536870913 := by omega
              subst hm3
              go_wp2
              go_roundw
              case rel => exact ⟨j + 1, _, by go_num, rfl, by omega, by omega, by first | trivial | rfl⟩
              case measure => simp [intOf]; omega
          · by_cases hm2 : nx < z + 1
            · go_wp2
              go_roundw
              case rel => exact ⟨j + 1, _, by go_num, rfl, by omega, by omega, by first | trivial | rfl⟩
              case measure => simp [intOf]; omega
            · go_wp2
              go_roundw
              case rel => exact ⟨j + 1, _, by go_num, rfl, by omega, by omega, by first | trivial | rfl⟩
              case measure => simp [intOf]; omega
        · obtain ⟨⟨e7, l7⟩, hsv⟩ : ∃ q, saveD R nx zs l = q := ⟨_, rfl⟩
          have HSV := Lib.hid hsv
          have HC7 := Lib.hid (HKP.out.save hsv)
          clear hsv
          have hal : Below wr.heap.size wr (wr.alloc (.cells #[.int .i64 nx, .slice a2 zs.length c2] 33)) := (Below.refl _ _).alloc (Nat.le_refl _) _
          have hnew := heap_alloc_new wr (.cells #[.int .i64 nx, .slice a2 zs.length c2] 33)
          have HN5 := Lib.hid (HN.out.below hal)
          have HL5 := Lib.hid hnew
          have HSG : Hid (¬ S wr.heap.size) := Lib.hid fun h => by have := (C.low HN.out.on.at_ h).2; omega
          have HGG : Hid (gn ≠ wr.heap.size) := Lib.hid (by have := lt_of_block HN.out.blk; omega)
          clear hal hnew
          go_upto_region 17 with (fail)
          clear HN q1
          generalize wr.alloc (.cells #[.int .i64 nx, .slice a2 zs.length c2] 33) = w5 at *
          generalize wr.heap.size = g5 at *
          have d0 := blkA HL5.out 0
          have d1 := blkA HL5.out 1
          simp only [List.getElem?_toArray, List.getElem?_cons_zero, List.getElem?_cons_succ] at d0 d1
          have c5 := HN5.out.on.pa
          go_wp2_with fail
          refine (Save_l C nx zs _ e7 l7 HN5.out.on.at_ HKP.out.inv (by omega) (HN5.out.on.reads2 HRX.out) HSV.out).mono ?_
          rintro x w6 ⟨rfl, ⟨S6, hA6, hg6⟩, hb6⟩
          have HN6 := Lib.hid (HN5.out.next hA6 hg6 hb6)
          have HL6 := Lib.hid ((hb6.block g5 (lt_of_block HL5.out) HSG.out).trans HL5.out)
          clear hA6 hg6 hb6 c5 d0 d1 HN5 HL5 HSV HSG
          have d0 := blkA HL6.out 0
          have d1 := blkA HL6.out 1
          simp only [List.getElem?_toArray, List.getElem?_cons_zero, List.getElem?_cons_succ] at d0 d1
          rcases HC7.out with ⟨rfl, hkp⟩ | ⟨h0, hkp⟩
          · have HKPN := Lib.hid hkp
            have f0 := frzA HN6.out.blk 0
            have f1 := frzA (setA HN6.out.blk 0 (.int .i64 nx)) 1
            have r0 := blkA HN6.out.blk 0
            have r1 := blkA HN6.out.blk 1
            simp only [List.getElem?_toArray, List.getElem?_cons_zero, List.getElem?_cons_succ] at r0 r1
            have HNS := Lib.hid (HN6.out.store (nx2 := nx) (v2 := .slice a2 zs.length c2))
            clear hkp HC7 HN6 HRV HKP HL6
            go_upto_region 19 with (fail)
            clear f0 f1 r0 r1 d0 d1
            generalize (w6.setCell ⟨gn, 0, none⟩ (.int .i64 nx)).setCell ⟨gn, 1, none⟩ (.slice a2 zs.length c2) = w7 at *
            have HKP7 := HKPN
            have HRV7 := HRX
            have HN7 := HNS
            have c7 := HN7.out.on.pa
            obtain ⟨⟨e8, l8⟩, hap⟩ : ∃ q, D.append R temp [116, 111, 114, 110] l7 = q := ⟨_, rfl⟩
            have HKP8 : Hid (Kp R l8 nx zs) := Lib.hid (by have := HKP7.out.append [116, 111, 114, 110]; rw [hap] at this; exact this)
            have HAP := Lib.hid hap
            clear hap
            go_wp2_with fail
            refine (C.append temp [116, 111, 114, 110] e8 l8 HN7.out.on.at_ HKP7.out.inv (by omega) (by simp [temp]) (by simp) HAP.out).mono ?_
            rintro x w8 ⟨rfl, ⟨S8, hA8, hg8⟩, hb8⟩
            have HN8 := Lib.hid (HN7.out.next hA8 hg8 hb8)
            clear hA8 hg8 hb8 c7 HN7 HAP HKP7
            have c8 := HN8.out.on.pa
            go_wp2_with fail
            refine (C.crash ks _ HN8.out.on.at_ HKP8.out.inv (by omega) (HN8.out.on.reads2 HK.out) (by omega)).mono ?_
            rintro x w9 ⟨rfl, ⟨S9, hA9, hg9⟩, hb9⟩
            have HN9 := Lib.hid (HN8.out.next hA9 hg9 hb9)
            have HKP9 := Lib.hid (HKP8.out.crash ks)
            clear hA9 hg9 hb9 c8 HN8 HKP8
            generalize D.crash ks l8 = l9 at *
            have c9 := HN9.out.on.pa
            obtain ⟨n10, s10, hld, hn10, hs10⟩ := HKP9.out.load
            have HLD := Lib.hid hld
            have HN10 := Lib.hid hn10
            have HS10 := Lib.hid hs10
            have hb10 : ∀ q ∈ s10, q ≤ 1099511627776 := fun q hq => by
              have hm : (q : Int) ∈ zs := by rw [← hs10]; unfold castL; exact List.mem_map.2 ⟨q, hq, rfl⟩
              rcases HKP9.out.file with ⟨-, -, h3⟩ | ⟨h3, -⟩
              · rw [h3] at hm; cases hm
              · have := right_segs h3 _ hm
                omega
            have HB10 := Lib.hid hb10
            have hsl10 : s10.length ≤ 1000 := by
              have h1 := castL_len s10
              rw [hs10] at h1
              rcases HKP9.out.file with ⟨-, -, h3⟩ | ⟨h3, -⟩
              · rw [h3] at h1; simp at h1; omega
              · have := (right_iff.1 h3).2.1
                omega
            clear hld hn10 hs10 hb10
            go_wp2_with fail
            refine (Load_l C 0 n10 s10 HN9.out.on.at_ HKP9.out.inv (by omega) HLD.out).mono ?_
            rintro x w11 ⟨⟨v11, rfl, hown⟩, hb11⟩
            obtain ⟨va, vc, hvv, -⟩ := reads_own hown
            rw [intCells_len] at hvv
            subst hvv
            have hal : Below w11.heap.size w11 (w11.alloc (.cells #[.int .i64 (n10 : Int), .slice va s10.length vc] 33)) := (Below.refl _ _).alloc (Nat.le_refl _) _
            have hnew := heap_alloc_new w11 (.cells #[.int .i64 (n10 : Int), .slice va s10.length vc] 33)
            have HN12 := Lib.hid ((HN9.out.below hb11).below hal)
            have HR1 := Lib.hid (readsI_own (own_below hown hal) HB10.out)
            have HR2 := Lib.hid (readsI_below HRV7.out HN12.out.on.bel)
            have HL12 := Lib.hid hnew
            clear hown hb11 hal hnew c9 HN9 HLD HB10
            go_upto_region 22 with (fail)
            generalize w11.alloc (.cells #[.int .i64 (n10 : Int), .slice va s10.length vc] 33) = w12 at *
            generalize w11.heap.size = g12 at *
            have d0 := blkA HL12.out 0
            have d1 := blkA HL12.out 1
            have e0 := blkA HN12.out.blk 0
            have e1 := blkA HN12.out.blk 1
            simp only [List.getElem?_toArray, List.getElem?_cons_zero, List.getElem?_cons_succ] at d0 d1 e0 e1
            rw [HN10.out] at d0
            have hne : (nx != nx) = false := by simp
            have hcs := castL_len s10
            go_wp2_with (go_at_call 13; refine (sameInts_l (castL s10) _ _ _ true _ HR1.out HR2.out (by omega) (Lib.hid (by rw [HS10.out]; simp))).mono ?_; rintro x w13 ⟨rfl, hb13⟩; have HN13 := Lib.hid (HN12.out.below hb13))
            go_roundw
            case rel => exact ⟨k + 1, _, _, _, l9, _, by go_num, by omega, HKP9, HRV7, HN13⟩
            case measure => simp [intOf]; omega
          · have hei : ((e7 : Int) == 0) = false := beq_eq_false_iff_ne.2 (by omega)
            have hen : ¬ (e7 : Int) = 0 := by omega
            have HKPN := Lib.hid hkp
            clear hkp HC7 h0 HKP HL6 d0 d1
            have HKP7 := HKPN
            have HRV7 := HRV
            have HN7 := HN6
            have c7 := HN7.out.on.pa
            obtain ⟨⟨e8, l8⟩, hap⟩ : ∃ q, D.append R temp [116, 111, 114, 110] l7 = q := ⟨_, rfl⟩
            have HKP8 : Hid (Kp R l8 next segs) := Lib.hid (by have := HKP7.out.append [116, 111, 114, 110]; rw [hap] at this; exact this)
            have HAP := Lib.hid hap
            clear hap
            go_wp2_with fail
            refine (C.append temp [116, 111, 114, 110] e8 l8 HN7.out.on.at_ HKP7.out.inv (by omega) (by simp [temp]) (by simp) HAP.out).mono ?_
            rintro x w8 ⟨rfl, ⟨S8, hA8, hg8⟩, hb8⟩
            have HN8 := Lib.hid (HN7.out.next hA8 hg8 hb8)
            clear hA8 hg8 hb8 c7 HN7 HAP HKP7
            have c8 := HN8.out.on.pa
            go_wp2_with fail
            refine (C.crash ks _ HN8.out.on.at_ HKP8.out.inv (by omega) (HN8.out.on.reads2 HK.out) (by omega)).mono ?_
            rintro x w9 ⟨rfl, ⟨S9, hA9, hg9⟩, hb9⟩
            have HN9 := Lib.hid (HN8.out.next hA9 hg9 hb9)
            have HKP9 := Lib.hid (HKP8.out.crash ks)
            clear hA9 hg9 hb9 c8 HN8 HKP8
            generalize D.crash ks l8 = l9 at *
            have c9 := HN9.out.on.pa
            obtain ⟨n10, s10, hld, hn10, hs10⟩ := HKP9.out.load
            have HLD := Lib.hid hld
            have HN10 := Lib.hid hn10
            have HS10 := Lib.hid hs10
            have hb10 : ∀ q ∈ s10, q ≤ 1099511627776 := fun q hq => by
              have hm : (q : Int) ∈ segs := by rw [← hs10]; unfold castL; exact List.mem_map.2 ⟨q, hq, rfl⟩
              rcases HKP9.out.file with ⟨-, -, h3⟩ | ⟨h3, -⟩
              · rw [h3] at hm; cases hm
              · have := right_segs h3 _ hm
                omega
            have HB10 := Lib.hid hb10
            have hsl10 : s10.length ≤ 1000 := by
              have h1 := castL_len s10
              rw [hs10] at h1
              rcases HKP9.out.file with ⟨-, -, h3⟩ | ⟨h3, -⟩
              · rw [h3] at h1; simp at h1; omega
              · have := (right_iff.1 h3).2.1
                omega
            clear hld hn10 hs10 hb10
            go_wp2_with fail
            refine (Load_l C 0 n10 s10 HN9.out.on.at_ HKP9.out.inv (by omega) HLD.out).mono ?_
            rintro x w11 ⟨⟨v11, rfl, hown⟩, hb11⟩
            obtain ⟨va, vc, hvv, -⟩ := reads_own hown
            rw [intCells_len] at hvv
            subst hvv
            have hal : Below w11.heap.size w11 (w11.alloc (.cells #[.int .i64 (n10 : Int), .slice va s10.length vc] 33)) := (Below.refl _ _).alloc (Nat.le_refl _) _
            have hnew := heap_alloc_new w11 (.cells #[.int .i64 (n10 : Int), .slice va s10.length vc] 33)
            have HN12 := Lib.hid ((HN9.out.below hb11).below hal)
            have HR1 := Lib.hid (readsI_own (own_below hown hal) HB10.out)
            have HR2 := Lib.hid (readsI_below HRV7.out HN12.out.on.bel)
            have HL12 := Lib.hid hnew
            clear hown hb11 hal hnew c9 HN9 HLD HB10
            go_upto_region 22 with (fail)
            generalize w11.alloc (.cells #[.int .i64 (n10 : Int), .slice va s10.length vc] 33) = w12 at *
            generalize w11.heap.size = g12 at *
            have d0 := blkA HL12.out 0
            have d1 := blkA HL12.out 1
            have e0 := blkA HN12.out.blk 0
            have e1 := blkA HN12.out.blk 1
            simp only [List.getElem?_toArray, List.getElem?_cons_zero, List.getElem?_cons_succ] at d0 d1 e0 e1
            rw [HN10.out] at d0
            have hne : (next != next) = false := by simp
            have hcs := castL_len s10
            go_wp2_with (go_at_call 13; refine (sameInts_l (castL s10) _ _ _ true _ HR1.out HR2.out (by omega) (Lib.hid (by rw [HS10.out]; simp))).mono ?_; rintro x w13 ⟨rfl, hb13⟩; have HN13 := Lib.hid (HN12.out.below hb13))
            go_roundw
            case rel => exact ⟨k + 1, _, _, _, l9, _, by go_num, by omega, HKP9, HRV7, HN13⟩
            case measure => simp [intOf]; omega
    · go_wp2
      go_ret
      exact ⟨rfl, HN.out.on.bel⟩
end Go.Proofs.Ytmfhipjceeijmaa.A
