/-
  Proved: RecordForks of bucketlinelaw6 is true for every argument: of two logs, of which the second is made of the first up to a place, and of entries of later epochs behind it, Fork tells just that place.
-/
import Derived.Test.YtfhopgficckjkaaRecordShown
import Derived.Test.YtfhopgficckjkaaRecordSlice
import Derived.Test.YtfhopgficckjkaaRecordMore3
import Derived.Test.YtfhopgficckjkaaRecordRefFork
import Derived.Laws.AppendOwnNone
import Derived.Deep.DeepCutAuto
import Derived.Deep.RegionHeld3
import Derived.ProofKit
import Derived.OpenShut
import Derived.ShutString
namespace Go.Proofs.Ytfhopgficckjkaa
open Go.ChangeShapes Go.WideShapes Go.ChangeAt Go.RowKit
open Go.ChangeMaps (open_string shut_string)
attribute [local go_sem] ext_Bd ext_Bl ext_Bt toList_B add_B size_B get_Bt

theorem recordForks_own : ownKnob Try.prog.godebug = none := by kernel_rfl
theorem recordForks_laid : laidOutB Try.prog = true := by kernel_rfl


/-- What the first loop has made. -/
structure GrowF (w : World) (k : Nat) (l : List R.En) (ep : Int) (v : Value) (wr : World) : Prop where
  made : ∃ many, Made 0 l ep many
  len : l.length = k
  row : ∃ es, PlRow w.heap.size l v wr es
  bel : Below w.heap.size w wr
theorem growF_next {w wr w2 w3 : World} {ep e2 : Int} {k g : Nat} {l : List R.En} {v v' : Value} {o : Obj} {es : List EV} (h : GrowF w k l ep v wr) (hr : PlRow w.heap.size l v w2 es) (hb : Below w.heap.size w w2) (hg : w2.heap[g]? = some evObj)
    (hm : ∃ many, Made 0 (l ++ [plainE (0 + l.length + 1) e2]) e2 many) (hp : k ≤ 1000000)
    (hown : w3.ownsRow w.heap.size 26 7 v' (es.length + 1) (enCells es ++ [.int .i64 ((k : Int) + 1), .int .i64 e2, .string (B [115]), .int .i64 0, .int .i64 1, .int .i64 1, .slice (some ⟨g, 0, none⟩) 1 1])) (hgr : (w2.alloc o).grownBy w3 v.ownBlock) :
    GrowF w (k + 1) (l ++ [plainE ((k : Int) + 1) e2]) e2 v' w3 := by
  have e1 : 0 + (l.length : Int) + 1 = (k : Int) + 1 := by rw [h.len]; omega
  rw [e1] at hm
  refine ⟨hm, by rw [List.length_append, h.len]; rfl, ⟨_, hr.next hg ⟨by omega, by omega⟩ hown hgr⟩, ?_⟩
  exact (hb.alloc hb.size o).grown hgr (by have := hb.size; simp; omega) fun b hb2 => (hr.own.lt b hb2).1
theorem growF_made {p : Int} {l : List R.En} {ep kk : Int} (h : ∃ many, Made p l ep many) (hk : 0 ≤ kk) (hk2 : kk ≤ 2) (hp : 0 ≤ p) (hpu : p + l.length < 274877906944) (hlu : l.length ≤ 1000) : ∃ many, Made p (l ++ [plainE (p + l.length + 1) (ep + kk)]) (ep + kk) many := by
  obtain ⟨many, h⟩ := h
  by_cases h0 : l.length = 0 ∨ 0 < kk
  · exact ⟨_, made_new h hk hk2 h0 hp hpu hlu⟩
  · obtain rfl : kk = 0 := by omega
    rw [Int.add_zero]
    exact ⟨_, made_same h (by omega) hp hpu hlu⟩
/-- What the second loop has made: entries behind those of the first log. -/
structure SecAt (W : World) (l : List R.En) (k : Nat) (E : Int) (i : Nat) (v : Value) (wr : World) : Prop where
  sec : ∃ lb, Second l k E i lb ∧ ∃ es, PlRow W.heap.size lb v wr es
  bel : Below W.heap.size W wr
theorem sec_start {W w1 : World} {l : List R.En} {k : Nat} {E ep : Int} {many : Nat} {base : Nat} {va v : Value} {es : List EV} (hm : Made 0 l ep many) (hk : k ≤ l.length) (hE : ep < E) (hr : PlRow base l va W es) (hown : w1.ownsRow W.heap.size 26 7 v k (enCells (es.take k))) (hb : Below W.heap.size W w1) : SecAt W l k E 0 v w1 := by
  refine ⟨⟨l.take k, second_start hm hk hE, es.take k, ?_, ?_, fun p hp => ?_⟩, hb⟩
  · rw [← hr.ens]; simp [ensOf, List.map_take]
  · have : (es.take k).length = k := by rw [List.length_take, hr.len]; omega
    rw [this]; exact hown
  · obtain ⟨h1, h2, g, h3, h4⟩ := hr.ev p (List.mem_of_mem_take hp)
    exact ⟨h1, h2, g, h3, (hb.block g (lt_of_block h4)).trans h4⟩
theorem sec_next {W w2 w3 : World} {E : Int} {k i g : Nat} {l lb : List R.En} {v v' : Value} {o : Obj} {es : List EV} (hs : Second l k E i lb) (hE : 1 ≤ E) (hE2 : E ≤ 274877906944) (hk : k + i < 1000) (hr : PlRow W.heap.size lb v w2 es) (hb : Below W.heap.size W w2) (hg : w2.heap[g]? = some evObj)
    (hown : w3.ownsRow W.heap.size 26 7 v' (es.length + 1) (enCells es ++ [.int .i64 ((k : Int) + i + 1), .int .i64 E, .string (B [115]), .int .i64 0, .int .i64 1, .int .i64 1, .slice (some ⟨g, 0, none⟩) 1 1])) (hgr : (w2.alloc o).grownBy w3 v.ownBlock) :
    SecAt W l k E (i + 1) v' w3 := by
  refine ⟨⟨_, second_next hs hE hE2 hk, _, hr.next hg ⟨by omega, by omega⟩ hown hgr⟩, ?_⟩
  exact (hb.alloc hb.size o).grown hgr (by have := hb.size; simp; omega) fun b hb2 => (hr.own.lt b hb2).1

set_option maxHeartbeats 8000000 in
set_option maxRecDepth 100000 in
theorem recordForks_walk (zs : List Int) (v : Value) (part : Int) (hpart : (Lit.int .i64 part).wf = true) (more : Int) (hmore : (Lit.int .i64 more).wf = true) (by_ : Int) (hby : (Lit.int .i64 by_).wf = true) (w : World) (hv : ReadsI w v zs) :
    Calls Try.prog 6 #[v, .int .i64 part, .int .i64 more, .int .i64 by_] w fun e w' => e = .returned (.bool true) ∧ Below w.heap.size w w' := by
  obtain ⟨i0, hi, hz0, hz1, hz2⟩ := info_parts Try.infoEn
  obtain ⟨hpt1, hpt2⟩ := i64_bd hpart
  obtain ⟨hmo1, hmo2⟩ := i64_bd hmore
  obtain ⟨hby1, hby2⟩ := i64_bd hby
  clear hpart hmore hby
  obtain ⟨av, cv, rfl, hx⟩ := hv
  have HX := Lib.hid hx; clear hx
  go_enter Try.func6, Try.ntmps6
  go_wp2_with fail
  refine (shown_l w).mono ?_
  rintro x w1 ⟨rfl, hb1⟩
  have HB1 := Lib.hid hb1; clear hb1
  by_cases h1 : 40 < zs.length
  · have h1i : (40 : Int) < (zs.length : Int) := by omega
    go_wp2
    go_ret
    exact ⟨rfl, HB1.out⟩
  have h1i : ¬ (40 : Int) < (zs.length : Int) := by omega
  go_wp2
  go_loopw [10, 11, 12] (fun u ve i wr => ∃ (k : Nat) (ep : Int) (l : List R.En), i = .int .i64 k ∧ ve = .int .i64 ep ∧ k ≤ zs.length ∧ GrowF w k l ep u wr) (fun _ _ i _ => zs.length - (intOf i).toNat)
  case atStart => exact ⟨0, 1, [], rfl, rfl, Nat.zero_le _, ⟨0, made_nil _⟩, rfl, ⟨[], PlRow.nil _ _⟩, HB1.out⟩
  case round =>
    obtain ⟨k, ep, l, rfl, rfl, hk, hat⟩ := hrel
    have HAT := Lib.hid hat; clear hat
    have hep : ep ≤ 1 + 2 * k ∧ 1 ≤ ep := by obtain ⟨m, hm⟩ := HAT.out.made; have h2 := hm.upp; rw [HAT.out.len] at h2; exact ⟨h2, hm.low⟩
    obtain ⟨hep1, hep2⟩ := hep
    by_cases hlt : k < zs.length
    · obtain ⟨hzb, b1, o1, rfl, x0⟩ := HX.out k hlt
      have hi1 : (k : Int) < (zs.length : Int) := by omega
      have y0 := below_keeps2 HAT.out.bel x0
      clear x0
      generalize zs[k] = z at hzb y0
      obtain ⟨hzb1, hzb2⟩ := hzb
      obtain ⟨htb1, htb2⟩ := tmod_bd z (show (0 : Int) < 3 by omega)
      obtain ⟨kk, HKK⟩ : ∃ kk, Hid (ab z 3 = kk) := ⟨_, Lib.hid rfl⟩
      obtain ⟨hkk1, hkk2⟩ := ab_bd z (show (0 : Int) < 3 by omega)
      rw [HKK.out] at hkk1 hkk2
      go_wp2
      go_cut [11] (fun s wx => s = .int .i64 (ep + kk) ∧ sQuiet wr wx)
      case first =>
        go_quiet (fail)
        go_wp2
        go_meet
        exact ⟨int_eq (by rw [← HKK.out]; rfl), _, rfl⟩
      case rest =>
      obtain ⟨rfl, nq, rfl⟩ := hcut
      clear y0 htb1 htb2 hzb1 hzb2
      have HMD := Lib.hid (growF_made (kk := kk) HAT.out.made hkk1 (by omega) (by omega) (by rw [HAT.out.len]; omega) (by rw [HAT.out.len]; omega))
      obtain ⟨es, hrow⟩ := HAT.out.row
      have hes60 : es.length ≤ 60 := by rw [hrow.len, HAT.out.len]; omega
      go_wp2_with fail
      refine (plain_h ((k : Int) + 1) (ep + kk) _).mono ?_
      rintro x w2 ⟨rfl, hg2, hb2⟩
      have HG2 := Lib.hid hg2
      have hb3 : Below wr.heap.size wr w2 := ⟨hb2.os, hb2.tape, hb2.output, hb2.size, hb2.block⟩
      have HB2 := Lib.hid (HAT.out.bel.trans (hb3.mono HAT.out.bel.size))
      have hrow2 := hrow.below hb3
      have hown2 := hrow2.own
      have hsz2 : w.heap.size ≤ w2.heap.size := HB2.out.size
      clear hg2 hb2 hb3
      dsimp only [enV, plainE]
      go_wp2_with (at_builtin; refine wpList_append_own _ rfl _ _ 27 rfl w.heap.size 26 i0 _ 7 80 Try.underlying27 hi hz0 hz1 hz2 rfl (by decide) _ _ _ rfl (hown2.alloc _) ⟨w2.heap.size, 0, none⟩ 1 1 [.int .i64 ((k : Int) + 1), .int .i64 (ep + kk), .string (B [115]), .int .i64 0, .int .i64 1, .int .i64 1, .slice (some ⟨wr.heap.size + 1, 0, none⟩) 1 1] rfl rfl (World.news_of_block (cs := #[.int .i64 ((k : Int) + 1), .int .i64 (ep + kk), .string (B [115]), .int .i64 0, .int .i64 1, .int .i64 1, .slice (some ⟨wr.heap.size + 1, 0, none⟩) 1 1]) (t := 26) (fr := (0, 0)) (heap_alloc_new w2 _)) (by simp [Value.oneCell']) (by unfold maxLen; omega) (by omega) (by simp; omega) ?_; intro v' w3 hown3 hgrow3 _)
      have HN := Lib.hid (growF_next HAT.out hrow2 HB2.out HG2.out HMD.out (by omega) hown3 hgrow3)
      clear hown3 hgrow3 hown2 hrow2
      go_wp2
      go_roundw
      case rel => exact ⟨k + 1, ep + kk, l ++ [plainE ((k : Int) + 1) (ep + kk)], by go_num, rfl, by omega, HN.out⟩
      case measure => simp [intOf]; omega
    · obtain ⟨many, hmade⟩ := HAT.out.made
      have HMADE := Lib.hid hmade
      obtain ⟨es, hrow⟩ := HAT.out.row
      have HROW := Lib.hid hrow
      have HLEN := Lib.hid hrow.len
      have hes40 : es.length ≤ 40 := by rw [hrow.len, HAT.out.len]; omega
      have HBE := Lib.hid HAT.out.bel
      obtain ⟨ra, rc, hu10, hrc⟩ := own_slice hrow.own
      subst hu10
      have hep82 : ep ≤ 82 := by omega
      clear hmade hrow HAT hep1
      have hmod : (0 : Int) < (es.length : Int) + 1 := by omega
      obtain ⟨hpm1, hpm2⟩ := tmod_bd part hmod
      obtain ⟨hpa1, hpa2⟩ := ab_bd part hmod
      obtain ⟨kN, hkN⟩ : ∃ kN : Nat, ab part ((es.length : Int) + 1) = kN := ⟨(ab part ((es.length : Int) + 1)).toNat, by omega⟩
      rw [hkN] at hpa1 hpa2
      have HKN := Lib.hid hkN; clear hkN
      have hkn : kN ≤ es.length := by omega
      obtain ⟨mm, HMM⟩ : ∃ mm, Hid (ab more 9 = mm) := ⟨_, Lib.hid rfl⟩
      obtain ⟨hmm1, hmm2⟩ := ab_bd more (show (0 : Int) < 9 by omega)
      obtain ⟨hmt1, hmt2⟩ := tmod_bd more (show (0 : Int) < 9 by omega)
      rw [HMM.out] at hmm1 hmm2
      obtain ⟨b5, HB5⟩ : ∃ b5, Hid (ab by_ 5 = b5) := ⟨_, Lib.hid rfl⟩
      obtain ⟨hb51, hb52⟩ := ab_bd by_ (show (0 : Int) < 5 by omega)
      obtain ⟨hbt1, hbt2⟩ := tmod_bd by_ (show (0 : Int) < 5 by omega)
      rw [HB5.out] at hb51 hb52
      have hmne : ((es.length : Int) + 1 == 0) = false := beq_eq_false_iff_ne.2 (by omega)
      have hmne2 : ¬ (es.length : Int) + 1 = 0 := by omega
      go_wp2
      go_cut [13] (fun s wx => s = .int .i64 (kN : Int) ∧ sQuiet wr wx)
      case first =>
        go_quiet (fail)
        go_wp2
        go_meet
        exact ⟨int_eq HKN.out, _, rfl⟩
      case rest =>
      obtain ⟨rfl, nq, rfl⟩ := hcut
      clear hmod hpm1 hpm2 hmne hmne2
      go_upto_region 12 with (fail)
      go_cut [14] (fun s wx => SecAt wr l kN (ep + 1 + b5) 0 s wx)
      case first =>
        rcases HROW.out.own.2 with ⟨hnil, hn0⟩ | ⟨g, cap, cur, hsome, _⟩
        · have hk0 : kN = 0 := by omega
          have hes0 : es = [] := List.length_eq_zero_iff.1 hn0
          subst hes0
          cases hnil
          subst hk0
          have hS := HROW.out
          have HFN : Hid (SecAt wr l 0 (ep + 1 + b5) 0 (.slice (some ⟨wr.heap.size, 0, none⟩) 0 0) ((wr.drewN nq).alloc (.cells #[] 26))) := Lib.hid
            (sec_start HMADE.out (Nat.zero_le _) (by omega) hS ⟨rfl, .inr ⟨wr.heap.size, 0, #[], rfl, Nat.le_refl _, heap_alloc_new (wr.drewN nq) _, Nat.le_refl _, by unfold maxLen; omega, rfl, rfl⟩⟩ ((below_drewN (Below.refl _ wr) nq).alloc (Nat.le_refl _) _))
          clear hS
          go_wp2_with (at_builtin; refine wpList_append_own_none rfl _ _ 27 rfl wr.heap.size 26 i0 7 Try.underlying27 hi _ 0 [] rfl ⟨rfl, .inr ⟨wr.heap.size, 0, #[], rfl, Nat.le_refl _, heap_alloc_new (wr.drewN nq) _, Nat.le_refl _, by unfold maxLen; omega, rfl, rfl⟩⟩ rfl ?_)
          go_meet
          exact HFN.out
        · cases hsome
          have hrd := readsR_take HROW.out.reads (k := kN) hkn
          have hrd2 := readsR_below hrd ((below_drewN (Below.refl _ wr) nq).alloc (Nat.le_refl _) (.cells #[] 26))
          have HCE := Lib.hid (reads_cells (n := kN) (by rw [List.length_take]; omega) hrd2)
          have HONE := Lib.hid (enCells_one (reads_forms hrd))
          have hcl : (enCells (es.take kN)).length = kN * 7 := by rw [enCells_len, List.length_take, Nat.min_eq_left hkn]
          have HCL := Lib.hid hcl
          clear hrd hrd2 hcl
          have hki : (kN : Int) ≤ (rc : Int) := by omega
          go_wp2_with (at_builtin; refine wpList_append_own _ rfl _ _ 27 rfl wr.heap.size 26 i0 _ 7 80 Try.underlying27 hi hz0 hz1 hz2 rfl (by decide) _ 0 [] rfl ⟨rfl, .inr ⟨wr.heap.size, 0, #[], rfl, Nat.le_refl _, heap_alloc_new (wr.drewN nq) _, Nat.le_refl _, by unfold maxLen; omega, rfl, rfl⟩⟩ ⟨g, 0, none⟩ kN rc (enCells (es.take kN)) rfl HCL.out HCE.out HONE.out (by unfold maxLen; omega) (by omega) (by simp) ?_; intro v' w3 hown3 hgrow3 _)
          have hb0 : Below wr.heap.size wr ((wr.drewN nq).alloc (.cells #[] 26)) := (below_drewN (Below.refl _ wr) nq).alloc (Nat.le_refl _) _
          have HFN := Lib.hid (sec_start (E := ep + 1 + b5) HMADE.out (by rw [← HLEN.out]; exact hkn) (by omega) HROW.out (by simpa using hown3) (hb0.grown hgrow3 (by simp) fun b hb => by cases hb; exact Nat.le_refl _))
          clear hown3 hgrow3 hb0
          go_wp2
          go_meet
          exact HFN.out
      case rest =>
      have HSEC0 := Lib.hid hcut; clear hcut
      go_wp2
      go_loopw [14, 15] (fun u i wx => ∃ j : Nat, i = .int .i64 j ∧ (j : Int) ≤ mm ∧ SecAt wr l kN (ep + 1 + b5) j u wx) (fun _ i _ => mm.toNat - (intOf i).toNat)
      case atStart => exact ⟨0, rfl, hmm1, HSEC0.out⟩
      case round =>
        obtain ⟨i, rfl, him, hsec⟩ := hrel
        have HSEC := Lib.hid hsec; clear hsec HSEC0
        go_upto_region 14 with (fail)
        go_cut [78] (fun s wx => s = .bool (decide ((i : Int) < mm)) ∧ wr = wx)
        case first =>
          go_wp2
          go_meet
          exact ⟨by rw [← HMM.out]; rfl, rfl⟩
        case rest =>
        obtain ⟨rfl, rfl⟩ := hcut
        obtain ⟨lb, hsec2, esb, hrowb⟩ := HSEC.out.sec
        have hesb : esb.length ≤ 60 := by rw [hrowb.len, hsec2.len]; omega
        by_cases hlt2 : (i : Int) < mm
        · go_wp2_with fail
          refine (plain_h ((kN : Int) + i + 1) (ep + 1 + max (by_.tmod 5) (-(by_.tmod 5))) _).mono ?_
          rintro x w2 ⟨rfl, hg2, hb2⟩
          rw [show max (by_.tmod 5) (-(by_.tmod 5)) = b5 from HB5.out]
          have HG2 := Lib.hid hg2
          have HB2 := Lib.hid (HSEC.out.bel.trans (hb2.mono HSEC.out.bel.size))
          have hrow2 := hrowb.below hb2
          have hown2 := hrow2.own
          have hsz2 := HB2.out.size
          clear hg2 hb2
          dsimp only [enV, plainE]
          go_wp2_with (at_builtin; refine wpList_append_own _ rfl _ _ 27 rfl _ 26 i0 _ 7 80 Try.underlying27 hi hz0 hz1 hz2 rfl (by decide) _ _ _ rfl (hown2.alloc _) ⟨w2.heap.size, 0, none⟩ 1 1 [.int .i64 ((kN : Int) + i + 1), .int .i64 (ep + 1 + b5), .string (B [115]), .int .i64 0, .int .i64 1, .int .i64 1, .slice (some ⟨wr.heap.size + 1, 0, none⟩) 1 1] rfl rfl (World.news_of_block (cs := #[.int .i64 ((kN : Int) + i + 1), .int .i64 (ep + 1 + b5), .string (B [115]), .int .i64 0, .int .i64 1, .int .i64 1, .slice (some ⟨wr.heap.size + 1, 0, none⟩) 1 1]) (t := 26) (fr := (0, 0)) (heap_alloc_new w2 _)) (by simp [Value.oneCell']) (by unfold maxLen; omega) (by omega) (by simp; omega) ?_; intro v' w3 hown3 hgrow3 _)
          have HN := Lib.hid (sec_next hsec2 (by omega) (by omega) (by omega) hrow2 HB2.out HG2.out hown3 hgrow3)
          clear hown3 hgrow3 hown2 hrow2
          go_wp2
          go_roundw
          case rel => exact ⟨i + 1, by go_num, by omega, HN.out⟩
          case measure => simp [intOf]; omega
        · have hl3 : ensOf es = l := HROW.out.ens
          have hl4 : ensOf esb = lb := hrowb.ens
          have HFA : Hid (R.follows (ensOf es) 0 0 = true) := Lib.hid (by rw [hl3]; exact HMADE.out.fol)
          have HFB : Hid (R.follows (ensOf esb) 0 0 = true) := Lib.hid (by rw [hl4]; exact hsec2.fol)
          have hfk := second_fork HMADE.out (k := kN) (by rw [← HLEN.out]; exact hkn) (show ep < ep + 1 + b5 by omega) hsec2
          have hfs := made_self HMADE.out
          rw [← hrowb.len, ← HLEN.out] at hfk
          rw [← HLEN.out] at hfs
          obtain ⟨ma, HMA⟩ : ∃ m, Hid (R.marks (ensOf es) = m) := ⟨_, Lib.hid rfl⟩
          obtain ⟨mb, HMB⟩ : ∃ m, Hid (R.marks (ensOf esb) = m) := ⟨_, Lib.hid rfl⟩
          rw [← hl3, ← hl4, HMA.out, HMB.out] at hfk
          rw [← hl3, HMA.out] at hfs
          have HF1 := Lib.hid hfk
          have HF2 := Lib.hid ((R.fork_comm mb ma _ _).trans hfk)
          have HF3 := Lib.hid hfs
          have hma : ma.length ≤ 60 := by have := R.marks_len (ensOf es); rw [HMA.out, ensOf_len] at this; omega
          have hmb : mb.length ≤ 60 := by have := R.marks_len (ensOf esb); rw [HMB.out, ensOf_len] at this; omega
          have HRA : Hid (∀ w', Below wr.heap.size wr w' → ReadsR w' (.slice ra es.length rc) es) := Lib.hid fun w' h => readsR_below (HROW.out.below HSEC.out.bel).reads h
          have HSA := Lib.hid HROW.out.small
          have HSB := Lib.hid hrowb.small
          obtain ⟨rb, cb, hub, _⟩ := own_slice hrowb.own
          subst hub
          have HRB : Hid (∀ w', Below wr.heap.size wr w' → ReadsR w' (.slice rb esb.length cb) esb) := Lib.hid fun w' h => readsR_below hrowb.reads h
          have HWB := Lib.hid (HBE.out.trans (HSEC.out.bel.mono HBE.out.size))
          have HY0 := Lib.hid (Below.refl wr.heap.size wr)
          have hlt2i : decide ((i : Int) < mm) = false := decide_eq_false hlt2
          clear hl3 hl4 hfk hfs HSEC hrowb hsec2
          go_wp2_with fail
          refine (Follows_at es _ 0 0 true wr (HRA.out _ HY0.out) (by omega) HSA.out ⟨by omega, by omega⟩ HFA).mono ?_
          rintro x y1 ⟨rfl, hb1⟩
          have HY1 := Lib.hid (HY0.out.trans (hb1.mono HY0.out.size))
          clear hb1
          go_wp2_with fail
          refine (Follows_at esb _ 0 0 true y1 (HRB.out _ HY1.out) (by omega) HSB.out ⟨by omega, by omega⟩ HFB).mono ?_
          rintro x y2 ⟨rfl, hb2⟩
          have HY2 := Lib.hid (HY1.out.trans (hb2.mono HY1.out.size))
          clear hb2
          go_wp2_with fail
          refine (Marks_l es _ y2 (HRA.out _ HY2.out) (by omega)).mono ?_
          rintro x y3 ⟨u3, rfl, hm3, hb3⟩
          have HY3 := Lib.hid (HY2.out.trans (hb3.mono HY2.out.size))
          rw [HMA.out] at hm3
          have HU3 := Lib.hid hm3
          clear hm3
          clear hb3
          go_wp2_with fail
          refine (Marks_l esb _ y3 (HRB.out _ HY3.out) (by omega)).mono ?_
          rintro x y4 ⟨u4, rfl, hm4, hb4⟩
          have HY4 := Lib.hid (HY3.out.trans (hb4.mono HY3.out.size))
          have HU3 := Lib.hid (readsM_below HU3.out hb4)
          rw [HMB.out] at hm4
          have HU4 := Lib.hid hm4
          clear hm4
          clear hb4
          have c5 := Fork_l ma mb _ _ (es.length : Int) (esb.length : Int) y4 HU3.out HU4.out (by omega) (by omega) (by omega) (by omega)
          rw [HF1.out] at c5
          have CC5 := Lib.hid c5; clear c5
          go_wp2_with fail
          refine (CC5.out).mono ?_
          rintro x y5 ⟨rfl, hb5⟩
          have HY5 := Lib.hid (HY4.out.trans (hb5.mono HY4.out.size))
          clear CC5
          clear hb5
          go_wp2_with fail
          refine (Marks_l esb _ y5 (HRB.out _ HY5.out) (by omega)).mono ?_
          rintro x y6 ⟨u6, rfl, hm6, hb6⟩
          have HY6 := Lib.hid (HY5.out.trans (hb6.mono HY5.out.size))
          rw [HMB.out] at hm6
          have HU6 := Lib.hid hm6
          clear hm6
          clear hb6
          go_wp2_with fail
          refine (Marks_l es _ y6 (HRA.out _ HY6.out) (by omega)).mono ?_
          rintro x y7 ⟨u7, rfl, hm7, hb7⟩
          have HY7 := Lib.hid (HY6.out.trans (hb7.mono HY6.out.size))
          have HU6 := Lib.hid (readsM_below HU6.out hb7)
          rw [HMA.out] at hm7
          have HU7 := Lib.hid hm7
          clear hm7
          clear hb7
          have c8 := Fork_l mb ma _ _ (esb.length : Int) (es.length : Int) y7 HU6.out HU7.out (by omega) (by omega) (by omega) (by omega)
          rw [HF2.out] at c8
          have CC8 := Lib.hid c8; clear c8
          go_wp2_with fail
          refine (CC8.out).mono ?_
          rintro x y8 ⟨rfl, hb8⟩
          have HY8 := Lib.hid (HY7.out.trans (hb8.mono HY7.out.size))
          clear CC8
          clear hb8
          go_wp2_with fail
          refine (Marks_l es _ y8 (HRA.out _ HY8.out) (by omega)).mono ?_
          rintro x y9 ⟨u9, rfl, hm9, hb9⟩
          have HY9 := Lib.hid (HY8.out.trans (hb9.mono HY8.out.size))
          rw [HMA.out] at hm9
          have HU9 := Lib.hid hm9
          clear hm9
          clear hb9
          go_wp2_with fail
          refine (Marks_l es _ y9 (HRA.out _ HY9.out) (by omega)).mono ?_
          rintro x y10 ⟨u10, rfl, hm10, hb10⟩
          have HY10 := Lib.hid (HY9.out.trans (hb10.mono HY9.out.size))
          have HU9 := Lib.hid (readsM_below HU9.out hb10)
          rw [HMA.out] at hm10
          have HU10 := Lib.hid hm10
          clear hm10
          clear hb10
          have c11 := Fork_l ma ma _ _ (es.length : Int) (es.length : Int) y10 HU9.out HU10.out (by omega) (by omega) (by omega) (by omega)
          rw [HF3.out] at c11
          have CC11 := Lib.hid c11; clear c11
          go_wp2_with fail
          refine (CC11.out).mono ?_
          rintro x y11 ⟨rfl, hb11⟩
          have HY11 := Lib.hid (HY10.out.trans (hb11.mono HY10.out.size))
          clear CC11
          clear hb11
          go_wp2
          go_ret
          exact ⟨rfl, HWB.out.trans (HY11.out.mono HWB.out.size)⟩

set_option maxRecDepth 100000 in
theorem recordForks_lifted (os : Os) (started : os.Started) (H : Type) (enc : TypeId × Value → H) :
    ReturnsInHanded {} Try.checked os 6 .any (Rows.recordForksSpec.pre6 enc Try.prog Try.f6 Rows.recordForksRow.domain false) (Rows.recordForksSpec.post enc Try.prog Try.f6 false true false false) := by
  refine returnsInHanded_of_change (C := Try.checked) recordForks_own started (by kernel_rfl) Try.func6
    (ChangeSpec.witness6 (enc := enc) (C := Try.checked) false ⟨#[], #[.slice none 0 0, .int .i64 0, .int .i64 0, .int .i64 0], []⟩ 8 (by kernel_rfl) (by kernel_rfl) (by kernel_rfl) (by kernel_rfl)) ?_
  intro W base args ds gs before hval0 hW _ _
  have hval : ∀ (j : Nat) t v, Try.f6.params[j]? = some t → args[j]? = some v → Value.okWide Try.prog W .any base t v := hval0
  have hW' := hW
  obtain ⟨p, q, hA0, hV, rfl, hfz, hnd⟩ := hW
  have hA : DataW.TrodAll enc Try.prog W 0 (fun _ => true) true Try.f6.params.toList args.toList ds p := hA0
  rw [Try.params6] at hA hval
  obtain ⟨v0, vs0, d0, ds0, p0, q0, hargs, rfl, rfl, h0, r0⟩ := trodAll_cons hA
  obtain ⟨v1, vs1, d1, ds1, p1, q1, rfl, rfl, rfl, h1, r1⟩ := trodAll_cons r0
  obtain ⟨v2, vs2, d2, ds2, p2, q2, rfl, rfl, rfl, h2, r2⟩ := trodAll_cons r1
  obtain ⟨v3, vs3, d3, ds3, p3, q3, rfl, rfl, rfl, h3, r3⟩ := trodAll_cons r2
  obtain ⟨rfl, rfl, rfl⟩ := trodAll_nil r3
  obtain rfl : args = #[v0, v1, v2, v3] := by cases args; simp_all
  obtain ⟨rfl, rfl⟩ := trodVars_none hV
  have k0 := h0
  have lt0 : ∀ x ∈ p0, x.block < W.heap.size := by obtain ⟨m, hm⟩ := k0; exact DataW.trod_lt m _ _ _ hm
  obtain ⟨zs0, w0⟩ := arg_ints Try.underlying48 Try.underlying3 (by kernel_rfl) (hval 0 48 v0 rfl rfl) h0
  obtain ⟨a1, rfl, rfl, rfl, w1⟩ := open_int Try.underlying3 (hval 1 3 v1 rfl rfl) h1
  obtain ⟨a2, rfl, rfl, rfl, w2⟩ := open_int Try.underlying3 (hval 2 3 v2 rfl rfl) h2
  obtain ⟨a3, rfl, rfl, rfl, w3⟩ := open_int Try.underlying3 (hval 3 3 v3 rfl rfl) h3
  clear hA0 hval0
  refine (recordForks_walk zs0 _ a1 w1 a2 w2 a3 w3 W w0).mono fun e W' ⟨he, bel⟩ => ?_
  subst he
  exact ⟨_, rfl, _, _, _, [], _, [], hW', trodAll_mk1 (shut_bool Try.underlying4 _), (trodAll_cons_mk (Below.trod recordForks_laid (by kernel_rfl) (of_decide_eq_true (by kernel_rfl)) k0 bel lt0) (trodAll_cons_mk (shut_int Try.underlying3 w1) (trodAll_cons_mk (shut_int Try.underlying3 w2) (trodAll_cons_mk (shut_int Try.underlying3 w3) trodAll_mk0)))), rfl, bel.frame _, fun h => by cases h⟩

theorem recordForks_holds : Rows.RecordForksSaid :=
  OpenClaim.holds_of_wide 6 Try.f6 rfl rfl rfl rfl rfl rfl rfl ⟨rfl, rfl, rfl, rfl, rfl⟩ rfl rfl rfl rfl rfl (by kernel_rfl) Try.func6 (by kernel_rfl)
    (of_decide_eq_true (by kernel_rfl)) (by unfold Func.isWrapper; first | (rw [if_pos (by decide +kernel)]; kernel_rfl) | (rw [if_neg (by decide +kernel)]; exact ⟨rfl, rfl⟩))
    (fun os started H enc _ => recordForks_lifted os started H enc)
#print axioms recordForks_holds

end Go.Proofs.Ytfhopgficckjkaa
