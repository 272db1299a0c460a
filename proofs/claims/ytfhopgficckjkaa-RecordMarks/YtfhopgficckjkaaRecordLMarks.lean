/-
  Proved: RecordMarks of bucketlinelaw6 is true for every argument: the marks of entries that follow one another rise, tell each place's epoch, and are as many as there are epochs.
-/
import Derived.Test.YtfhopgficckjkaaRecordShown
import Derived.Test.YtfhopgficckjkaaRecordFollows
import Derived.Test.YtfhopgficckjkaaRecordRowE
import Derived.Test.YtfhopgficckjkaaRecordMore2
import Derived.Test.YtfhopgficckjkaaRecordRefFork
import Derived.Deep.DeepCutAuto
import Derived.Deep.RegionHeld3
import Derived.ProofKit
import Derived.OpenShut
import Derived.ShutString
namespace Go.Proofs.Ytfhopgficckjkaa
open Go.ChangeShapes Go.WideShapes Go.ChangeAt Go.RowKit
open Go.ChangeMaps (open_string shut_string)
attribute [local go_sem] ext_Bd ext_Bl ext_Bt toList_B add_B size_B get_Bt

theorem recordMarks_own : ownKnob Try.prog.godebug = none := by kernel_rfl
theorem recordMarks_laid : laidOutB Try.prog = true := by kernel_rfl


/-- What the first loop has made. -/
structure GrowAt (w : World) (p : Int) (k : Nat) (l : List R.En) (ep : Int) (many : Nat) (v : Value) (wr : World) : Prop where
  made : Made p l ep many
  len : l.length = k
  row : ∃ es, PlRow w.heap.size l v wr es
  bel : Below w.heap.size w wr
theorem grow_next {w wr w2 w3 : World} {first ep e2 : Int} {k many many' g : Nat} {l : List R.En} {v v' : Value} {o : Obj} {es : List EV} (h : GrowAt w (first - 1) k l ep many v wr) (hr : PlRow w.heap.size l v w2 es) (hb : Below w.heap.size w w2) (hg : w2.heap[g]? = some evObj)
    (hm : Made (first - 1) (l ++ [plainE (first - 1 + l.length + 1) e2]) e2 many') (hp : -1000000000000 ≤ first ∧ first ≤ 1000000000000 ∧ k ≤ 1000000)
    (hown : w3.ownsRow w.heap.size 26 7 v' (es.length + 1) (enCells es ++ [.int .i64 (first + k), .int .i64 e2, .string (B [115]), .int .i64 0, .int .i64 1, .int .i64 1, .slice (some ⟨g, 0, none⟩) 1 1])) (hgr : (w2.alloc o).grownBy w3 v.ownBlock) :
    GrowAt w (first - 1) (k + 1) (l ++ [plainE (first + k) e2]) e2 many' v' w3 := by
  have e1 : first - 1 + (l.length : Int) + 1 = first + k := by rw [h.len]; omega
  rw [e1] at hm
  refine ⟨hm, by rw [List.length_append, h.len]; rfl, ⟨_, hr.next hg ⟨by omega, by omega⟩ hown hgr⟩, ?_⟩
  exact (hb.alloc hb.size o).grown hgr (by have := hb.size; simp; omega) fun b hb2 => (hr.own.lt b hb2).1

set_option maxHeartbeats 8000000 in
set_option maxRecDepth 100000 in
theorem recordMarks_walk (zs : List Int) (v : Value) (first : Int) (_hf : (Lit.int .i64 first).wf = true) (w : World) (hv : ReadsI w v zs) :
    Calls Try.prog 7 #[v, .int .i64 first] w fun e w' => e = .returned (.bool true) ∧ Below w.heap.size w w' := by
  obtain ⟨i0, hi, hz0, hz1, hz2⟩ := info_parts Try.infoEn
  obtain ⟨av, cv, rfl, hx⟩ := hv
  have HX := Lib.hid hx; clear hx
  go_enter Try.func7, Try.ntmps7
  go_wp2_with fail
  refine (shown_l w).mono ?_
  rintro x w1 ⟨rfl, hb1⟩
  have HB1 := Lib.hid hb1; clear hb1
  by_cases h1 : 60 < zs.length
  · have h1i : (60 : Int) < (zs.length : Int) := by omega
    go_wp2
    go_ret
    exact ⟨rfl, HB1.out⟩
  have h1i : ¬ (60 : Int) < (zs.length : Int) := by omega
  by_cases h2 : first < 1
  · go_wp2
    go_ret
    exact ⟨rfl, HB1.out⟩
  by_cases h3 : 1073741824 < first
  · go_wp2
    go_ret
    exact ⟨rfl, HB1.out⟩
  go_wp2
  go_loopw [6, 7, 8, 9] (fun u ve vm i wr => ∃ (k : Nat) (ep : Int) (many : Nat) (l : List R.En), i = .int .i64 k ∧ ve = .int .i64 ep ∧ vm = .int .i64 many ∧ k ≤ zs.length ∧ GrowAt w (first - 1) k l ep many u wr) (fun _ _ _ i _ => zs.length - (intOf i).toNat)
  case atStart => exact ⟨0, 1, 0, [], rfl, rfl, rfl, Nat.zero_le _, made_nil _, rfl, ⟨[], PlRow.nil _ _⟩, HB1.out⟩
  case round =>
    obtain ⟨k, ep, many, l, rfl, rfl, rfl, hk, hat⟩ := hrel
    have HAT := Lib.hid hat; clear hat
    have hep := HAT.out.made.upp
    have hep1 := HAT.out.made.low
    rw [HAT.out.len] at hep
    have hmany : many ≤ 60 := by have h5 := R.marks_len l; rw [HAT.out.made.num, HAT.out.len] at h5; omega
    by_cases hlt : k < zs.length
    · obtain ⟨hzb, b1, o1, rfl, x0⟩ := HX.out k hlt
      have hi1 : (k : Int) < (zs.length : Int) := by omega
      have y0 := below_keeps2 HAT.out.bel x0
      clear x0
      generalize zs[k] = z at hzb y0
      obtain ⟨hzb1, hzb2⟩ := hzb
      obtain ⟨htb1, htb2⟩ := tmod_bd z (show (0 : Int) < 3 by omega)
      obtain ⟨kk, HKK⟩ : ∃ kk, Hid (ab z 3 = kk) := ⟨_, Lib.hid rfl⟩
      obtain ⟨hkk1, hkk2⟩ := ab_bd z (show (0 : Int) < 3 by omega)
      rw [HKK.out] at hkk1 hkk2
      go_wp2
      go_cut [10] (fun s wx => s = .int .i64 kk ∧ sQuiet wr wx)
      case first =>
        go_quiet (fail)
        go_wp2
        go_meet
        exact ⟨int_eq HKK.out, _, rfl⟩
      case rest =>
      obtain ⟨rfl, nq, rfl⟩ := hcut
      clear y0 htb1 htb2 hzb1 hzb2
      obtain ⟨es, hrow⟩ := HAT.out.row
      have hesl := hrow.len
      rw [HAT.out.len] at hesl
      have hll := HAT.out.len
      by_cases hk0 : k = 0
      · have HMD : Hid (Made (first - 1) (l ++ [plainE (first - 1 + l.length + 1) (ep + kk)]) (ep + kk) (many + 1)) := Lib.hid (made_new HAT.out.made hkk1 (by omega) (.inl (by omega)) (by omega) (by omega) (by omega))
        have hk0i : ((k : Int) == 0) = true := beq_iff_eq.2 (by omega)
        clear hll hk0
        go_wp2_with fail
        refine (plain_h (first + k) (ep + kk) _).mono ?_
        rintro x w2 ⟨rfl, hg2, hb2⟩
        have HG2 := Lib.hid hg2
        have hb3 : Below wr.heap.size wr w2 := ⟨hb2.os, hb2.tape, hb2.output, hb2.size, hb2.block⟩
        have HB2 := Lib.hid (HAT.out.bel.trans (hb3.mono HAT.out.bel.size))
        have hrow2 := hrow.below hb3
        have hown2 := hrow2.own
        have hsz2 : w.heap.size ≤ w2.heap.size := HB2.out.size
        clear hg2 hb2 hb3
        dsimp only [enV, plainE]
        go_wp2_with (at_builtin; refine wpList_append_own _ rfl _ _ 27 rfl w.heap.size 26 i0 _ 7 80 Try.underlying27 hi hz0 hz1 hz2 rfl (by decide) _ _ _ rfl (hown2.alloc _) ⟨w2.heap.size, 0, none⟩ 1 1 [.int .i64 (first + k), .int .i64 (ep + kk), .string (B [115]), .int .i64 0, .int .i64 1, .int .i64 1, .slice (some ⟨wr.heap.size + 1, 0, none⟩) 1 1] rfl rfl (World.news_of_block (cs := #[.int .i64 (first + k), .int .i64 (ep + kk), .string (B [115]), .int .i64 0, .int .i64 1, .int .i64 1, .slice (some ⟨wr.heap.size + 1, 0, none⟩) 1 1]) (t := 26) (fr := (0, 0)) (heap_alloc_new w2 _)) (by simp [Value.oneCell']) (by unfold maxLen; omega) (by omega) (by simp; omega) ?_; intro v' w3 hown3 hgrow3 _)
        have HN := Lib.hid (grow_next HAT.out hrow2 HB2.out HG2.out HMD.out (by omega) hown3 hgrow3)
        clear hown3 hgrow3 hown2 hrow2
        go_wp2
        go_roundw
        case rel => exact ⟨k + 1, ep + kk, many + 1, l ++ [plainE (first + k) (ep + kk)], by go_num, rfl, by go_num, by omega, HN.out⟩
        case measure => simp [intOf]; omega
      have hk0i : ((k : Int) == 0) = false := beq_eq_false_iff_ne.2 (by omega)
      by_cases hkk0 : 0 < kk
      · have HMD : Hid (Made (first - 1) (l ++ [plainE (first - 1 + l.length + 1) (ep + kk)]) (ep + kk) (many + 1)) := Lib.hid (made_new HAT.out.made hkk1 (by omega) (.inr hkk0) (by omega) (by omega) (by omega))
        clear hll
        go_wp2_with fail
        refine (plain_h (first + k) (ep + kk) _).mono ?_
        rintro x w2 ⟨rfl, hg2, hb2⟩
        have HG2 := Lib.hid hg2
        have hb3 : Below wr.heap.size wr w2 := ⟨hb2.os, hb2.tape, hb2.output, hb2.size, hb2.block⟩
        have HB2 := Lib.hid (HAT.out.bel.trans (hb3.mono HAT.out.bel.size))
        have hrow2 := hrow.below hb3
        have hown2 := hrow2.own
        have hsz2 : w.heap.size ≤ w2.heap.size := HB2.out.size
        clear hg2 hb2 hb3
        dsimp only [enV, plainE]
        go_wp2_with (at_builtin; refine wpList_append_own _ rfl _ _ 27 rfl w.heap.size 26 i0 _ 7 80 Try.underlying27 hi hz0 hz1 hz2 rfl (by decide) _ _ _ rfl (hown2.alloc _) ⟨w2.heap.size, 0, none⟩ 1 1 [.int .i64 (first + k), .int .i64 (ep + kk), .string (B [115]), .int .i64 0, .int .i64 1, .int .i64 1, .slice (some ⟨wr.heap.size + 1, 0, none⟩) 1 1] rfl rfl (World.news_of_block (cs := #[.int .i64 (first + k), .int .i64 (ep + kk), .string (B [115]), .int .i64 0, .int .i64 1, .int .i64 1, .slice (some ⟨wr.heap.size + 1, 0, none⟩) 1 1]) (t := 26) (fr := (0, 0)) (heap_alloc_new w2 _)) (by simp [Value.oneCell']) (by unfold maxLen; omega) (by omega) (by simp; omega) ?_; intro v' w3 hown3 hgrow3 _)
        have HN := Lib.hid (grow_next HAT.out hrow2 HB2.out HG2.out HMD.out (by omega) hown3 hgrow3)
        clear hown3 hgrow3 hown2 hrow2
        go_wp2
        go_roundw
        case rel => exact ⟨k + 1, ep + kk, many + 1, l ++ [plainE (first + k) (ep + kk)], by go_num, rfl, by go_num, by omega, HN.out⟩
        case measure => simp [intOf]; omega
      · obtain rfl : kk = 0 := by omega
        have HMD : Hid (Made (first - 1) (l ++ [plainE (first - 1 + l.length + 1) ep]) ep many) := Lib.hid (made_same HAT.out.made (by omega) (by omega) (by omega) (by omega))
        clear hll
        go_wp2_with fail
        refine (plain_h (first + k) (ep) _).mono ?_
        rintro x w2 ⟨rfl, hg2, hb2⟩
        have HG2 := Lib.hid hg2
        have hb3 : Below wr.heap.size wr w2 := ⟨hb2.os, hb2.tape, hb2.output, hb2.size, hb2.block⟩
        have HB2 := Lib.hid (HAT.out.bel.trans (hb3.mono HAT.out.bel.size))
        have hrow2 := hrow.below hb3
        have hown2 := hrow2.own
        have hsz2 : w.heap.size ≤ w2.heap.size := HB2.out.size
        clear hg2 hb2 hb3
        dsimp only [enV, plainE]
        go_wp2_with (at_builtin; refine wpList_append_own _ rfl _ _ 27 rfl w.heap.size 26 i0 _ 7 80 Try.underlying27 hi hz0 hz1 hz2 rfl (by decide) _ _ _ rfl (hown2.alloc _) ⟨w2.heap.size, 0, none⟩ 1 1 [.int .i64 (first + k), .int .i64 (ep), .string (B [115]), .int .i64 0, .int .i64 1, .int .i64 1, .slice (some ⟨wr.heap.size + 1, 0, none⟩) 1 1] rfl rfl (World.news_of_block (cs := #[.int .i64 (first + k), .int .i64 (ep), .string (B [115]), .int .i64 0, .int .i64 1, .int .i64 1, .slice (some ⟨wr.heap.size + 1, 0, none⟩) 1 1]) (t := 26) (fr := (0, 0)) (heap_alloc_new w2 _)) (by simp [Value.oneCell']) (by unfold maxLen; omega) (by omega) (by simp; omega) ?_; intro v' w3 hown3 hgrow3 _)
        have HN := Lib.hid (grow_next HAT.out hrow2 HB2.out HG2.out HMD.out (by omega) hown3 hgrow3)
        clear hown3 hgrow3 hown2 hrow2
        go_wp2
        go_roundw
        case rel => exact ⟨k + 1, ep, many, l ++ [plainE (first + k) (ep)], by go_num, rfl, by go_num, by omega, HN.out⟩
        case measure => simp [intOf]; omega
    · have hnum := HAT.out.made.num
      have HFOL := Lib.hid HAT.out.made.fol
      have HBE := Lib.hid HAT.out.bel
      obtain ⟨es, hrow⟩ := HAT.out.row
      have hesl := hrow.len
      have hes60 : es.length ≤ 60 := by rw [hesl, HAT.out.len]; omega
      clear hesl
      have HENS := Lib.hid hrow.ens
      have HRD := Lib.hid hrow.reads
      have HSM := Lib.hid hrow.small
      obtain ⟨ra, rc, hu6, _⟩ := own_slice hrow.own
      subst hu6
      obtain ⟨ms, HMS⟩ : ∃ ms, Hid (R.marks l = ms) := ⟨_, Lib.hid rfl⟩
      have HRISE := Lib.hid (marks_rise HAT.out.made.fol)
      have HEP : Hid (∀ i (h : i < es.length), R.epochAt ms es[i].1.pos = es[i].1.epoch) := Lib.hid fun i h => by
        have hl : i < l.length := by rw [← hrow.len]; exact h
        have h1 := R.follows_pos HAT.out.made.fol i hl
        have h2 := R.epoch_at (R.runs_of_follows HAT.out.made.fol) i hl
        have e1 : l[i] = es[i].1 := by have := hrow.ens; subst this; simp
        rw [← h1, e1, HMS.out] at h2
        exact h2
      rw [HMS.out] at hnum HRISE
      subst hnum
      clear hrow HAT hep hep1
      go_wp2_with fail
      refine (Marks_l es _ wr HRD.out (by omega)).mono ?_
      rintro x w2 ⟨um, rfl, hm2, hb2⟩
      rw [HENS.out, HMS.out] at hm2
      have HRD2 := Lib.hid (readsR_below HRD.out hb2)
      have HB2 := Lib.hid (HBE.out.trans (hb2.mono HBE.out.size))
      have HM2 := Lib.hid hm2
      obtain ⟨ma, mc, rfl, _⟩ := hm2
      clear hb2 HRD
      have c1 := Follows_l es _ (first - 1) 0 w2 HRD2.out (by omega) HSM.out ⟨by omega, by omega⟩
      rw [HENS.out, HFOL.out] at c1
      have C1 := Lib.hid c1; clear c1
      go_wp2_with fail
      refine C1.out.mono ?_
      rintro x w3 ⟨rfl, hb3⟩
      have HB3 := Lib.hid (HB2.out.trans (hb3.mono HB2.out.size))
      have hm3 := readsM_below HM2.out hb3
      obtain ⟨ma2, mc2, hme, _, _, hxm⟩ := hm3
      cases hme
      have HXM := Lib.hid hxm
      have hr3 := readsR_below HRD2.out hb3
      obtain ⟨ra2, rc2, hre, _, _, hxe⟩ := hr3
      cases hre
      have HXE := Lib.hid hxe
      have hnmb : ((ms.length : Int) != (ms.length : Int)) = false := by simp
      clear hb3 C1 hxm hxe HM2 HRD2 HB2 HSM HFOL HENS HMS
      go_wp2
      clear hnmb
      go_loopw [12] (fun i wr => ∃ j : Nat, i = .int .i64 j ∧ 1 ≤ j ∧ (j ≤ ms.length ∨ j = 1) ∧ sQuiet w3 wr) (fun i _ => ms.length - (intOf i).toNat)
      case atStart => exact ⟨1, rfl, Nat.le_refl _, .inr rfl, 0, rfl⟩
      case round =>
        obtain ⟨j, rfl, hj1, hj2, nq, rfl⟩ := hrel
        by_cases hjl : j < ms.length
        · obtain ⟨j', rfl⟩ : ∃ j', j = j' + 1 := ⟨j - 1, by omega⟩
          obtain ⟨b2, o2, rfl, x0, x1⟩ := HXM.out (j' + 1) hjl
          obtain ⟨b3, o3, he3, y0, y1⟩ := HXM.out j' (by omega)
          cases he3
          obtain ⟨hr1, hr2⟩ := rise_next HRISE.out hjl
          have hi1 : ((j' + 1 : Nat) : Int) < (ms.length : Int) := by omega
          have hi2 : (j' : Int) < (ms.length : Int) := by omega
          have hi3 : (j' : Int) + 1 < (ms.length : Int) := by omega
          generalize ms[j' + 1] = mx at x0 x1 hr1 hr2
          generalize ms[j'] = my at y0 y1 hr1 hr2
          obtain ⟨ma0, ma1⟩ := mx
          obtain ⟨mb0, mb1⟩ := my
          dsimp only at x0 x1 y0 y1 hr1 hr2
          have hd0 : decide (ma0 ≤ mb0) = false := decide_eq_false (by omega)
          have hd1 : decide (ma1 ≤ mb1) = false := decide_eq_false (by omega)
          have hn0 : ¬ ma0 ≤ mb0 := by omega
          have hn1 : ¬ ma1 ≤ mb1 := by omega
          go_wp2
          go_quiet (fail)
          go_wp2
          go_roundw
          case rel => exact ⟨j' + 1 + 1, by go_num, by omega, .inl (by omega), _, rfl⟩
          case measure => simp [intOf]; omega
        · have hji : ¬ (j : Int) < (ms.length : Int) := by omega
          go_wp2
          clear hji hj1 hj2 hjl
          go_loopw [13] (fun i wr => ∃ j : Nat, i = .int .i64 j ∧ j ≤ es.length ∧ sQuiet w3 wr) (fun i _ => es.length - (intOf i).toNat)
          case atStart => exact ⟨0, rfl, Nat.zero_le _, _, rfl⟩
          case round =>
            obtain ⟨i, rfl, hil, nq2, rfl⟩ := hrel
            by_cases hie : i < es.length
            · obtain ⟨-, -, b4, o4, rfl, h7⟩ := HXE.out i hie
              have hepi := HEP.out i hie
              obtain ⟨c0, c1, -⟩ := h7
              have hi4 : (i : Int) < (es.length : Int) := by omega
              generalize es[i] = pe at c0 c1 hepi
              obtain ⟨⟨pos, ep9, bb⟩, uu⟩ := pe
              dsimp only at c0 c1 hepi
              have HEPI := Lib.hid hepi; clear hepi
              go_wp2
              go_loopw [14, 15] (fun n i wr => ∃ (kk : Nat) (z : Int), i = .int .i64 kk ∧ n = .int .i64 z ∧ kk ≤ ms.length ∧ z = R.epochAt (ms.take kk) pos ∧ sQuiet w3 wr) (fun _ i _ => ms.length - (intOf i).toNat)
              case atStart => exact ⟨0, 0, rfl, rfl, Nat.zero_le _, rfl, _, rfl⟩
              case round =>
                obtain ⟨kk, z, rfl, rfl, hkk, hz, nq3, rfl⟩ := hrel
                have HZ := Lib.hid hz; clear hz
                by_cases hkl : kk < ms.length
                · obtain ⟨b5, o5, rfl, x0, x1⟩ := HXM.out kk hkl
                  have hi5 : (kk : Int) < (ms.length : Int) := by omega
                  have HS := Lib.hid (epoch_step hkl pos)
                  generalize ms[kk] = m at x0 x1 HS
                  by_cases hp : m.2 ≤ pos
                  · have HN := Lib.hid (show m.1 = R.epochAt (ms.take (kk + 1)) pos by rw [HS.out, if_pos hp])
                    go_wp2
                    go_quiet (fail)
                    go_wp2
                    go_roundw
                    case rel => exact ⟨kk + 1, m.1, by go_num, rfl, by omega, HN.out, _, rfl⟩
                    case measure => simp [intOf]; omega
                  · have HN := Lib.hid (show z = R.epochAt (ms.take (kk + 1)) pos by rw [HS.out, if_neg hp, HZ.out])
                    go_wp2
                    go_quiet (fail)
                    go_wp2
                    go_roundw
                    case rel => exact ⟨kk + 1, z, by go_num, rfl, by omega, HN.out, _, rfl⟩
                    case measure => simp [intOf]; omega
                · have hze : z = ep9 := by rw [HZ.out, List.take_of_length_le (by omega), HEPI.out]
                  subst hze
                  have hki : ¬ (kk : Int) < (ms.length : Int) := by omega
                  go_wp2
                  go_roundw
                  case rel => exact ⟨i + 1, by go_num, by omega, _, rfl⟩
                  case measure => simp [intOf]; omega
            · have hii : ¬ (i : Int) < (es.length : Int) := by omega
              go_wp2
              go_ret
              exact ⟨rfl, below_quiet HB3.out ⟨_, rfl⟩⟩

set_option maxRecDepth 100000 in
theorem recordMarks_lifted (os : Os) (started : os.Started) (H : Type) (enc : TypeId × Value → H) :
    ReturnsInHanded {} Try.checked os 7 .any (Rows.recordMarksSpec.pre6 enc Try.prog Try.f7 Rows.recordMarksRow.domain false) (Rows.recordMarksSpec.post enc Try.prog Try.f7 false true false false) := by
  refine returnsInHanded_of_change (C := Try.checked) recordMarks_own started (by kernel_rfl) Try.func7
    (ChangeSpec.witness6 (enc := enc) (C := Try.checked) false ⟨#[], #[.slice none 0 0, .int .i64 0], []⟩ 8 (by kernel_rfl) (by kernel_rfl) (by kernel_rfl) (by kernel_rfl)) ?_
  intro W base args ds gs before hval0 hW _ _
  have hval : ∀ (j : Nat) t v, Try.f7.params[j]? = some t → args[j]? = some v → Value.okWide Try.prog W .any base t v := hval0
  have hW' := hW
  obtain ⟨p, q, hA0, hV, rfl, hfz, hnd⟩ := hW
  have hA : DataW.TrodAll enc Try.prog W 0 (fun _ => true) true Try.f7.params.toList args.toList ds p := hA0
  rw [Try.params7] at hA hval
  obtain ⟨v0, vs0, d0, ds0, p0, q0, hargs, rfl, rfl, h0, r0⟩ := trodAll_cons hA
  obtain ⟨v1, vs1, d1, ds1, p1, q1, rfl, rfl, rfl, h1, r1⟩ := trodAll_cons r0
  obtain ⟨rfl, rfl, rfl⟩ := trodAll_nil r1
  obtain rfl : args = #[v0, v1] := by cases args; simp_all
  obtain ⟨rfl, rfl⟩ := trodVars_none hV
  have k0 := h0
  have lt0 : ∀ x ∈ p0, x.block < W.heap.size := by obtain ⟨m, hm⟩ := k0; exact DataW.trod_lt m _ _ _ hm
  obtain ⟨zs0, w0⟩ := arg_ints Try.underlying48 Try.underlying3 (by kernel_rfl) (hval 0 48 v0 rfl rfl) h0
  obtain ⟨a1, rfl, rfl, rfl, w1⟩ := open_int Try.underlying3 (hval 1 3 v1 rfl rfl) h1
  clear hA0 hval0
  refine (recordMarks_walk zs0 _ a1 w1 W w0).mono fun e W' ⟨he, bel⟩ => ?_
  subst he
  exact ⟨_, rfl, _, _, _, [], _, [], hW', trodAll_mk1 (shut_bool Try.underlying4 _), (trodAll_cons_mk (Below.trod recordMarks_laid (by kernel_rfl) (of_decide_eq_true (by kernel_rfl)) k0 bel lt0) (trodAll_cons_mk (shut_int Try.underlying3 w1) trodAll_mk0)), rfl, bel.frame _, fun h => by cases h⟩

theorem recordMarks_holds : Rows.RecordMarksSaid :=
  OpenClaim.holds_of_wide 7 Try.f7 rfl rfl rfl rfl rfl rfl rfl ⟨rfl, rfl, rfl, rfl, rfl⟩ rfl rfl rfl rfl rfl (by kernel_rfl) Try.func7 (by kernel_rfl)
    (of_decide_eq_true (by kernel_rfl)) (by unfold Func.isWrapper; first | (rw [if_pos (by decide +kernel)]; kernel_rfl) | (rw [if_neg (by decide +kernel)]; exact ⟨rfl, rfl⟩))
    (fun os started H enc _ => recordMarks_lifted os started H enc)
#print axioms recordMarks_holds

end Go.Proofs.Ytfhopgficckjkaa
