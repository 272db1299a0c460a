/-
  The walk of the law SegmentCuts over any segment package that keeps its contracts.
-/
import Derived.Test.YtpdnbpihkiijkaaGreatDoorBun29
import Derived.Test.YtpdnbpihkiijkaaGreatDoorBun26
namespace Go.Proofs.YtpdnbpihkiijkaaGreatDoor.G
open Go.RowKit
open D (dP)
attribute [local go_sem] ext_Bd ext_Bl ext_Bt toList_B add_B size_B get_Bt

theorem fit_small {b : E.Bat} (h : E.fits b = 0) : E.Small b := by
  obtain ⟨hh, _, hr⟩ := E.fits_inv h
  have h1 := (nameL_len hh.1).2
  refine E.Small.of (by omega) fun e he => ?_
  have := E.right_bd (List.all_eq_true.1 hr e he)
  omega
theorem right_events {e : R.En} (h : R.right e = true) : e.b.events.length ≤ 1000000 := by
  have := (E.fits_inv (R.right_iff.1 h).2.2.2.2).2.1
  omega
abbrev Q3 (ga gb : Nat) (d v : Value) (w : World) : Prop := w.cell? ⟨ga, 0, none⟩ = some d ∧ w.cell? ⟨gb, 1, none⟩ = some v ∧ w.cell? ⟨gb, 2, none⟩ = some (.bool false)
theorem Q3_below {ga gb : Nat} {d v : Value} {w w' : World} (h : Q3 ga gb d v w) (hb : Below w.heap.size w w') : Q3 ga gb d v w' :=
  ⟨below_keeps hb _ _ h.1, below_keeps hb _ _ h.2.1, below_keeps hb _ _ h.2.2⟩
theorem Q3_but {ga gb : Nat} {d v : Value} {w w' : World} {S : Nat → Prop} (h : Q3 ga gb d v w) (hb : D.But S w w') (ha : ¬ S ga) (hg : ¬ S gb) : Q3 ga gb d v w' :=
  ⟨cell_but h.1 hb ha, cell_but h.2.1 hb hg, cell_but h.2.2 hb hg⟩
theorem full_one (nm s : Tx) : D.Full [full nm s] := fun f hf => by
  rw [List.mem_singleton] at hf
  subst hf
  rfl
theorem cut_law {j n : Nat} {es : List R.En} {last : Int} (hj : 1 ≤ j) (hj9 : j ≤ 9) (h1 : 1 ≤ n) (h2 : n ≤ far) (hw : R.follows es ((n : Int) - 1) 0 = true) (hl : es.length ≤ 40) : cutD room20 (nameS (j : Int)) last [full (nameS (j : Int)) (segB n es)] = (0, [full (nameS (j : Int)) (segB n (upto last es))]) := by
  have hr := follows_all hw
  have hu : ∀ e ∈ upto last es, R.right e = true := fun e he => hr e (upto_mem he).1
  have hul : (upto last es).length ≤ es.length := (List.takeWhile_prefix _).length_le
  have a1 := segB_len h2 hr
  have a2 := segB_len h2 hu
  have b1 : es.length * 2921 ≤ 40 * 2921 := Nat.mul_le_mul_right _ hl
  have b2 : (upto last es).length * 2921 ≤ 40 * 2921 := Nat.mul_le_mul_right _ (by omega)
  exact cut_one hj hj9 (load_seg h1 h2 hw) (by unfold room20; omega)
theorem law_load {j n : Nat} {es : List R.En} (h1 : 1 ≤ n) (h2 : n ≤ far) (hw : R.follows es ((n : Int) - 1) 0 = true) : loadD (nameS (j : Int)) [full (nameS (j : Int)) (segB n es)] = (0, n, es, false) := load_one h1 h2 hw
set_option maxHeartbeats 8000000 in
set_option maxRecDepth 100000 in
theorem cuts_walk {C : D.DC} (Z : SC C) (es : List EV) (va : Value) (last : Int) (w : World) (hla : i64B last) (hA : ReadsR w va es) :
    Calls Tryz.prog 6 #[va, .int .i64 last] w fun x w' => x = .returned (.bool true) ∧ Below w.heap.size w w' := by
  have HV := Lib.hid hA
  have HLA := Lib.hid hla
  clear hla
  obtain ⟨aa, cap, hva, hle, hnone, hx0⟩ := hA
  subst hva
  have HX0 := Lib.hid hx0
  clear hx0
  go_enter Tryz.func6, Tryz.ntmps6
  go_wp2_with fail
  refine (shown9_l Z w).mono ?_
  rintro x w1 ⟨rfl, hb1⟩
  have HB1 := Lib.hid hb1
  clear hb1
  go_wp2_with fail
  refine (fits9_l es _ w1 (readsR_below HV.out HB1.out)).mono ?_
  rintro x w2 ⟨hok, hb2⟩
  have HB2 := Lib.hid (HB1.out.trans (hb2.mono HB1.out.size))
  have HOK : Hid (x = .returned (.bool true) → LightAll es) := Lib.hid fun h => by
    rcases hok with h1 | ⟨-, h2⟩
    · rw [h] at h1; cases h1
    · exact h2
  obtain ⟨ok, rfl⟩ : ∃ ok, x = .returned (.bool ok) := by rcases hok with h | ⟨h, -⟩ <;> exact ⟨_, h⟩
  clear hok hb2 HB1
  go_wp2_with fail
  refine (begun9_l C (bs := w.heap.size) 1048576 w2 HB2.out.size (by omega) (by omega)).mono ?_
  rintro x w3 ⟨⟨p, m, S, rfl, hd, -, -, -⟩, hb3⟩
  have HB3 := Lib.hid (HB2.out.trans (hb3.mono HB2.out.size))
  have hal3 : Below w3.heap.size w3 (w3.alloc (.cells #[dP p, .pointer (some ⟨m, 0, none⟩)] 28)) := (Below.refl _ _).alloc (Nat.le_refl _) _
  have hnew3 := heap_alloc_new w3 (.cells #[dP p, .pointer (some ⟨m, 0, none⟩)] 28)
  have HS4 : Hid (OneAt C w p w3.heap.size (w3.alloc (.cells #[dP p, .pointer (some ⟨m, 0, none⟩)] 28)) [] S) := Lib.hid ⟨C.below hd hal3, by rw [blk9 hnew3]; rfl, fun h => by have := (C.low hd h).2; omega, HB3.out.trans (hal3.mono HB3.out.size)⟩
  clear hd hb3 HB2 hal3 hnew3 HB3
  cases ok
  · go_wp2
    go_ret
    exact ⟨rfl, HS4.out.bel⟩
  have HLI := Lib.hid (HOK.out rfl)
  have h40 : es.length ≤ 40 := HLI.out.1
  clear HOK
  go_upto_if 38 with (fail)
  generalize w3.alloc (.cells #[dP p, .pointer (some ⟨m, 0, none⟩)] 28) = w4 at *
  generalize w3.heap.size = ga at *
  obtain ⟨f, HF⟩ : ∃ f, Hid (f = firstZ (ensOf es)) := ⟨_, Lib.hid rfl⟩
  have hfb : i64B f := by
    rw [HF.out]
    cases es with
    | nil => exact ⟨by decide, by decide⟩
    | cons e l => exact (HX0.out 0 (by simp)).2.1
  go_cut [9] (fun x wx => x = .int .i64 f ∧ w4 = wx)
  case first =>
    by_cases h0 : es.length = 0
    · have hz : es = [] := List.eq_nil_of_length_eq_zero h0
      have hf1 : f = 1 := by rw [HF.out, hz]; rfl
      have h0i : ¬ (0 : Int) < (es.length : Int) := by omega
      clear hz h0
      go_wp2
      go_meet
      exact ⟨int_eq hf1.symm, rfl⟩
    · have h0i : (0 : Int) < (es.length : Int) := by omega
      obtain ⟨-, -, b, off, hab, h7⟩ := HX0.out 0 (by omega)
      subst hab
      have hf1 : f = (es[0]'(by omega)).1.pos := by
        rw [HF.out]
        cases es with
        | nil => exact absurd rfl h0
        | cons e l => rfl
      have z0 := below_keeps HS4.out.bel _ _ h7.1
      rw [Nat.zero_mul, Nat.add_zero, ← hf1] at z0
      clear h7 hf1
      go_wp2
      go_meet
      exact ⟨rfl, rfl⟩
  case rest =>
  obtain ⟨rfl, rfl⟩ := hcut
  have HRA : Hid (∀ w', Below w.heap.size w w' → ReadsR w' (.slice aa es.length cap) es) := Lib.hid fun w' h => readsR_below HV.out h
  have hp4 := HS4.out.pa
  by_cases hfr : ¬ (1 ≤ f ∧ f ≤ 274877906944)
  · go_wp2_with fail
    refine (Z.create 3 f 1 _ HS4.out.at_ (D.inv_nil _) (by decide) Named.nil (by omega) (by omega) hfb (create_arg (by unfold far; omega))).mono ?_
    rintro x w7 ⟨rfl, -, hb7⟩
    have HB7 : Hid (Below w.heap.size w w7) := Lib.hid (but_low HS4.out.bel hb7 HS4.out.lo)
    clear hb7
    go_wp2
    go_ret
    exact ⟨rfl, HB7.out⟩
  obtain ⟨n, HFN⟩ : ∃ n : Nat, Hid (f = (n : Int) ∧ 1 ≤ n ∧ n ≤ far) := ⟨f.toNat, Lib.hid ⟨by omega, by omega, by unfold far; omega⟩⟩
  have hn1 := HFN.out.2.1
  have hn2 := HFN.out.2.2
  have hfn := HFN.out.1
  clear hfr
  have HCR := Lib.hid (law_create (j := 3) (by omega) (by omega) hn1 hn2)
  rw [← hfn] at HCR
  clear hfn
  have HSM := Lib.hid (light_of HLI.out)
  go_wp2_with fail
  refine (Z.create 3 f 0 _ HS4.out.at_ (D.inv_nil _) (by decide) Named.nil (by omega) (by omega) hfb HCR.out).mono ?_
  rintro x w5 ⟨rfl, ⟨S5, hd5, hg5⟩, hb5⟩
  have HS5 := Lib.hid (HS4.out.next hd5 hg5 hb5)
  have HI5 := Lib.hid (inv_seg (nm := (nameS ((3 : Nat) : Int))) (n := n) (es := []) hn2 (fun _ h => by cases h) (by simp))
  clear hd5 hg5 hb5 HS4 hp4
  have hp5 := HS5.out.pa
  have HR5 : Hid (∀ w', D.But S5 w5 w' → ReadsR w' (.slice aa es.length cap) es) := Lib.hid fun w' hb => HRA.out _ (but_low HS5.out.bel hb HS5.out.lo)
  by_cases hfo : R.follows (ensOf es) ((n : Int) - 1) 0 = true
  case neg =>
    have HG := Lib.hid (law_gap (j := 3) hn1 hn2 (by simpa using hfo))
    clear hfo
    go_wp2_with fail
    refine (Z.add 3 es _ 11 _ HS5.out.at_ HI5.out (by decide) (named_one (by omega) (by omega) _) (by omega) (by omega) HR5.out (by omega) HSM.out HG.out).mono ?_
    rintro x w8 ⟨rfl, -, hb8⟩
    have HB8 : Hid (Below w.heap.size w w8) := Lib.hid (but_low HS5.out.bel hb8 HS5.out.lo)
    clear hb8
    go_wp2
    go_ret
    exact ⟨rfl, HB8.out⟩
  have HFO := Lib.hid hfo
  clear hfo
  have HAD := Lib.hid (law_add (j := 3) (a := []) (by omega) (by omega) hn1 hn2 HFO.out (by rw [List.nil_append, ensOf_len]; exact h40))
  rw [List.nil_append] at HAD
  go_wp2_with fail
  refine (Z.add 3 es _ 0 _ HS5.out.at_ HI5.out (by decide) (named_one (by omega) (by omega) _) (by omega) (by omega) HR5.out (by omega) HSM.out HAD.out).mono ?_
  rintro x w6 ⟨rfl, ⟨S6, hd6, hg6⟩, hb6⟩
  have HS6 := Lib.hid (HS5.out.next hd6 hg6 hb6)
  have HI6 := Lib.hid (inv_seg (nm := (nameS ((3 : Nat) : Int))) hn2 (follows_all HFO.out) (by rw [ensOf_len]; exact h40))
  clear hd6 hg6 hb6 HS5 hp5 HR5 HAD HI5 HCR
  go_wp2
  go_loop [10] (fun a => ∃ j : Nat, a = .int .i64 (j : Int) ∧ j ≤ es.length ∧ Hid (∀ i (h : i < es.length), i < j → es[i].1.pos ≤ last)) (fun a => es.length - (intOf a).toNat)
  case atStart => exact ⟨0, rfl, Nat.zero_le _, Lib.hid fun i _ h => by omega⟩
  case round =>
    obtain ⟨k, rfl, hk, HJ⟩ := hrel
    by_cases hgo : ∃ h : k < es.length, es[k].1.pos ≤ last
    · obtain ⟨hlt, hpl⟩ := hgo
      have hlti : (k : Int) < (es.length : Int) := by omega
      obtain ⟨-, -, b, off, hab, h7⟩ := HX0.out k hlt
      subst hab
      have z0 := below_keeps HS6.out.bel _ _ h7.1
      have HJ2 : Hid (∀ i (h : i < es.length), i < k + 1 → es[i].1.pos ≤ last) := Lib.hid fun i hi h => by
        by_cases e : i = k
        · subst e; exact hpl
        · exact HJ.out i hi (by omega)
      clear h7 HJ
      generalize (es[k]).1.pos = pk at *
      go_wp2
      go_round
      case rel => exact ⟨k + 1, by go_num, by omega, HJ2⟩
      case measure => simp [intOf]; omega
    have HUP : Hid (upto last (ensOf es) = (ensOf es).take k) := Lib.hid (upto_of (by rw [ensOf_len]; exact hk) (fun i hi hik => by
      have := HJ.out i (by rw [ensOf_len] at hi; exact hi) hik
      simpa using this) (fun hlt => by
      rw [ensOf_len] at hlt
      have : ¬ es[k].1.pos ≤ last := fun h => hgo ⟨hlt, h⟩
      simpa using this))
    have HGO := Lib.hid hgo
    clear hgo HJ
    go_upto_region 12 with (fail)
    go_cut [67] (fun x wx => x = .bool false ∧ w6 = wx)
    case first =>
      by_cases hlt : k < es.length
      · have hlti : (k : Int) < (es.length : Int) := by omega
        obtain ⟨-, -, b, off, hab, h7⟩ := HX0.out k hlt
        subst hab
        have z0 := below_keeps HS6.out.bel _ _ h7.1
        have hpl : ¬ (es[k]).1.pos ≤ last := fun h => HGO.out ⟨hlt, h⟩
        clear h7 HGO
        generalize (es[k]).1.pos = pk at *
        go_wp2
        go_meet
        exact ⟨rfl, rfl⟩
      · have hlti : ¬ (k : Int) < (es.length : Int) := by omega
        go_wp2
        go_meet
        exact ⟨rfl, rfl⟩
    case rest =>
    obtain ⟨rfl, rfl⟩ := hcut
    clear HGO
    obtain ⟨A, HA⟩ : ∃ A, Hid ((ensOf es).take k = A) := ⟨_, Lib.hid rfl⟩
    have HAE : Hid (ensOf (es.take k) = A) := Lib.hid (by rw [← HA.out]; exact List.map_take)
    obtain ⟨D2, HDE⟩ : ∃ D2, Hid (ensOf (es.drop k) = D2) := ⟨_, Lib.hid rfl⟩
    have HAD : Hid (A ++ D2 = ensOf es) := Lib.hid (by rw [← HAE.out, ← HDE.out, ← List.map_append, List.take_append_drop])
    have HFA : Hid (R.follows A ((n : Int) - 1) 0 = true) := Lib.hid (by
      have := HFO.out
      rw [← HAD.out] at this
      exact ((R.follows_append A D2 ((n : Int) - 1) 0).1 this).1)
    have HAL : Hid (A.length ≤ 40) := Lib.hid (by rw [← HAE.out, ensOf_len, List.length_take]; omega)
    have HUA : Hid (upto last A = A) := Lib.hid (by rw [← HA.out, ← HUP.out, upto_idem])
    have HC1 := Lib.hid (cut_law (j := 3) (last := last) (by omega) (by omega) hn1 hn2 HFO.out (by rw [ensOf_len]; exact h40))
    rw [HUP.out, HA.out] at HC1
    have HC2 := Lib.hid (cut_law (j := 3) (last := last) (by omega) (by omega) hn1 hn2 HFA.out HAL.out)
    rw [HUA.out] at HC2
    have HLO := Lib.hid (law_load (j := 3) hn1 hn2 HFA.out)
    have HT3 := Lib.hid (law_add (j := 3) (a := A) (b := D2) (by omega) (by omega) hn1 hn2 (by rw [HAD.out]; exact HFO.out) (by rw [HAD.out, ensOf_len]; exact h40))
    have HIA := Lib.hid (inv_seg (nm := (nameS ((3 : Nat) : Int))) hn2 (follows_all HFA.out) HAL.out)
    have HRT : Hid (∀ x ∈ es.take k, x.1.b.events.length ≤ 1000000) := Lib.hid fun x hx => right_events (follows_all HFO.out x.1 (List.mem_map.2 ⟨x, List.mem_of_mem_take hx, rfl⟩))
    generalize segB n A = sb at *
    have hp6 := HS6.out.pa
    go_wp2_with fail
    refine (Z.cut 3 last 0 _ HS6.out.at_ HI6.out (by decide) (named_one (by omega) (by omega) _) (by omega) (by omega) HLA.out HC1.out).mono ?_
    rintro x w7 ⟨rfl, ⟨S7, hd7, hg7⟩, hb7⟩
    have HS7 := Lib.hid (HS6.out.next hd7 hg7 hb7)
    clear hd7 hg7 hb7 HS6 hp6 HC1 HI6
    have hp7 := HS7.out.pa
    go_wp2_with fail
    refine (C.crash [] _ HS7.out.at_ HIA.out (by decide) (fun w' _ => ⟨none, 0, rfl, fun i hi => by simp at hi⟩) (by simp)).mono ?_
    rintro x w8 ⟨rfl, ⟨S8, hd8, hg8⟩, hb8⟩
    rw [D.crash_full (full_one _ _)] at hd8
    have HS8 := Lib.hid (HS7.out.next hd8 hg8 hb8)
    clear hd8 hg8 hb8 HS7 hp7
    have hp8 := HS8.out.pa
    go_wp2_with fail
    refine (Z.load 3 0 n A false HS8.out.at_ HIA.out (by decide) (named_one (by omega) (by omega) _) (by omega) HLO.out).mono ?_
    rintro x w9 ⟨⟨v, xs, rfl, hxs, hrd⟩, hb9⟩
    have hxk : xs.length = k := by rw [← ensOf_len, hxs, ← HA.out, List.length_take, ensOf_len]; omega
    obtain ⟨a2, cap2, hv, -⟩ := hrd w9 (D.But.refl _ _)
    rw [hxk] at hv
    subst hv
    have HXS := Lib.hid hxs
    have HXK := Lib.hid hxk
    have hal : Below w9.heap.size w9 (w9.alloc (.cells #[.int .i64 (n : Int), .slice a2 k cap2, .bool false] 38)) := (Below.refl _ _).alloc (Nat.le_refl _) _
    have hnew := heap_alloc_new w9 (.cells #[.int .i64 (n : Int), .slice a2 k cap2, .bool false] 38)
    have g1 : (w9.alloc (.cells #[.int .i64 (n : Int), .slice a2 k cap2, .bool false] 38)).cell? ⟨w9.heap.size, 1, none⟩ = some (.slice a2 k cap2) := by rw [blk9 hnew]; rfl
    have g2 : (w9.alloc (.cells #[.int .i64 (n : Int), .slice a2 k cap2, .bool false] 38)).cell? ⟨w9.heap.size, 2, none⟩ = some (.bool false) := by rw [blk9 hnew]; rfl
    have HS10 := Lib.hid ((HS8.out.below hb9).below hal)
    have HNG : Hid (¬ S8 w9.heap.size) := Lib.hid fun h => by have := (C.low (HS8.out.below hb9).at_ h).2; omega
    have HRX : Hid (∀ w2, D.But S8 (w9.alloc (.cells #[.int .i64 (n : Int), .slice a2 k cap2, .bool false] 38)) w2 → ReadsR w2 (.slice a2 k cap2) xs) := Lib.hid fun w2 hb => hrd w2 ((D.But.of_below hal).trans hb)
    clear hrd hxs hxk hb9 hal hnew HS8 hp8 HLO
    have hp10 := HS10.out.pa
    obtain ⟨u, HU⟩ : ∃ u, Hid (D.used [full (nameS ((3 : Nat) : Int)) sb] = u) := ⟨_, Lib.hid rfl⟩
    have HUS := Lib.hid (fun (w' : World) (h : OneAt C w p ga w' [full (nameS ((3 : Nat) : Int)) sb] S8) => C.used h.at_ HIA.out (by decide))
    rw [HU.out] at HUS
    go_wp2_with fail
    generalize w9.alloc (.cells #[.int .i64 (n : Int), .slice a2 k cap2, .bool false] 38) = w10 at *
    generalize w9.heap.size = gb at *
    refine (HUS.out w10 HS10.out).mono ?_
    rintro x w11 ⟨rfl, hb11⟩
    have HS11 := Lib.hid (HS10.out.below hb11)
    have q1 := below_keeps hb11 _ _ g1
    have q2 := below_keeps hb11 _ _ g2
    have HRX11 : Hid (∀ w2, D.But S8 w11 w2 → ReadsR w2 (.slice a2 k cap2) xs) := Lib.hid fun w2 hb => HRX.out w2 ((D.But.of_below hb11).trans hb)
    clear hb11 HS10 hp10 g1 g2 HRX HUS
    have hp11 := HS11.out.pa
    go_wp2_with fail
    refine (Z.cut 3 last 0 _ HS11.out.at_ HIA.out (by decide) (named_one (by omega) (by omega) _) (by omega) (by omega) HLA.out HC2.out).mono ?_
    rintro x w12 ⟨rfl, ⟨S12, hd12, hg12⟩, hb12⟩
    have HS12 := Lib.hid (HS11.out.next hd12 hg12 hb12)
    have HNG12 : Hid (¬ S12 gb) := Lib.hid (off9 hg12 (by have := World.block_lt_of_cell? _ _ q1; exact this) HNG.out)
    have y1 := cell_but q1 hb12 HNG.out
    have y2 := cell_but q2 hb12 HNG.out
    have HRD := Lib.hid (HRX11.out w12 hb12)
    clear hd12 hg12 hb12 HS11 hp11 q1 q2 HRX11 HC2 HNG
    have hkc : (k : Int) ≤ (cap : Int) := by omega
    have hkl : (k : Int) ≤ (es.length : Int) := by omega
    have hlc : (es.length : Int) ≤ (cap : Int) := by omega
    go_upto_region 20 with (fail)
    have hq : w12.cell? ⟨ga, 0, none⟩ = some (dP p) ∧ w12.cell? ⟨gb, 1, none⟩ = some (.slice a2 k cap2) ∧ w12.cell? ⟨gb, 2, none⟩ = some (.bool false) := ⟨HS12.out.pa, y1, y2⟩
    have HS13 := Lib.hid HS12.out.drew
    have HRD13 : Hid (ReadsR w12.drew (.slice a2 k cap2) xs) := Lib.hid (readsR_below HRD.out ⟨rfl, rfl, rfl, Nat.le_refl _, fun _ _ => rfl⟩)
    clear HS12 HRD y1 y2
    refine wp_region_held_drew (S := fun w' => w'.cell? ⟨ga, 0, none⟩ = some (dP p) ∧ w'.cell? ⟨gb, 1, none⟩ = some (.slice a2 k cap2) ∧ w'.cell? ⟨gb, 2, none⟩ = some (.bool false)) (by kernel_rfl) ?_ (fun hHeld => ?_)
    · exact hq
    generalize w12.drew = w13 at *
    clear hq
    refine take_wanted (i := 0) (v := ?_) rfl (by kernel_rfl) (by kernel_rfl) (by kernel_rfl) (fun _ _ _ h => h) (by rfl) ?_ (by assumption) ?_
    rotate_left
    · intro w hSw
      (try dsimp only at hSw)
      go_simp
      (try with_reducible rfl)
    simp only [Act.put, List.setIfInBounds_toArray, List.set_cons_zero, List.set_cons_succ]
    refine take_wanted (i := 1) (v := ?_) rfl (by kernel_rfl) (by kernel_rfl) (by kernel_rfl) (fun _ _ _ h => h) (by rfl) ?_ (by assumption) ?_
    rotate_left
    · intro w hSw
      (try dsimp only at hSw)
      go_simp
      (try with_reducible rfl)
    simp only [Act.put, List.setIfInBounds_toArray, List.set_cons_zero, List.set_cons_succ]
    refine take_wanted (i := 2) (v := ?_) rfl (by kernel_rfl) (by kernel_rfl) (by kernel_rfl) (fun _ _ _ h => h) (by rfl) ?_ (by assumption) ?_
    rotate_left
    · intro w hSw
      (try dsimp only at hSw)
      go_simp
      (try with_reducible rfl)
    simp only [Act.put, List.setIfInBounds_toArray, List.set_cons_zero, List.set_cons_succ]
    refine take_wanted (i := 3) (v := ?_) rfl (by kernel_rfl) (by kernel_rfl) (by kernel_rfl) (fun _ _ _ h => h) (by rfl) ?_ (by assumption) ?_
    rotate_left
    · intro w hSw
      (try dsimp only at hSw)
      go_simp
      (try with_reducible rfl)
    simp only [Act.put, List.setIfInBounds_toArray, List.set_cons_zero, List.set_cons_succ]
    refine take_wanted (i := 4) (v := ?_) rfl (by kernel_rfl) (by kernel_rfl) (by kernel_rfl) (fun _ _ _ h => h) (by rfl) ?_ (by assumption) ?_
    rotate_left
    · intro w hSw
      (try dsimp only at hSw)
      go_simp
      (try with_reducible rfl)
    simp only [Act.put, List.setIfInBounds_toArray, List.set_cons_zero, List.set_cons_succ]
    refine take_wanted (i := 5) (v := ?_) rfl (by kernel_rfl) (by kernel_rfl) (by kernel_rfl) (fun _ _ _ h => h) (by rfl) ?_ (by assumption) ?_
    rotate_left
    · intro w hSw
      (try dsimp only at hSw)
      go_simp
      (try with_reducible rfl)
    simp only [Act.put, List.setIfInBounds_toArray, List.set_cons_zero, List.set_cons_succ]
    refine take_wanted (i := 6) (v := ?_) rfl (by kernel_rfl) (by kernel_rfl) (by kernel_rfl) (fun _ _ _ h => h) (by rfl) ?_ (by assumption) ?_
    rotate_left
    · intro w hSw
      (try dsimp only at hSw)
      go_simp
      (try with_reducible rfl)
    simp only [Act.put, List.setIfInBounds_toArray, List.set_cons_zero, List.set_cons_succ]
    refine take_wanted (i := 7) (v := ?_) rfl (by kernel_rfl) (by kernel_rfl) (by kernel_rfl) (fun _ _ _ h => h) (by rfl) ?_ (by assumption) ?_
    rotate_left
    · intro w hSw
      (try dsimp only at hSw)
      go_simp
      (try with_reducible rfl)
    simp only [Act.put, List.setIfInBounds_toArray, List.set_cons_zero, List.set_cons_succ]
    refine take_wanted (i := 8) (v := ?_) rfl (by kernel_rfl) (by kernel_rfl) (by kernel_rfl) (fun _ _ _ h => h) (by rfl) ?_ (by assumption) ?_
    rotate_left
    · intro w hSw
      (try dsimp only at hSw)
      go_simp
      (try with_reducible rfl)
    simp only [Act.put, List.setIfInBounds_toArray, List.set_cons_zero, List.set_cons_succ]
    refine take_wanted (i := 9) (v := ?_) rfl (by kernel_rfl) (by kernel_rfl) (by kernel_rfl) (fun _ _ _ h => h) (by rfl) ?_ (by assumption) ?_
    rotate_left
    · intro w hSw
      (try dsimp only at hSw)
      go_simp
      (try with_reducible rfl)
    simp only [Act.put, List.setIfInBounds_toArray, List.set_cons_zero, List.set_cons_succ]
    refine take_wanted (i := 10) (v := ?_) rfl (by kernel_rfl) (by kernel_rfl) (by kernel_rfl) (fun _ _ _ h => h) (by rfl) ?_ (by assumption) ?_
    rotate_left
    · intro w hSw
      (try dsimp only at hSw)
      go_simp
      (try with_reducible rfl)
    simp only [Act.put, List.setIfInBounds_toArray, List.set_cons_zero, List.set_cons_succ]
    refine take_wanted (i := 11) (v := ?_) rfl (by kernel_rfl) (by kernel_rfl) (by kernel_rfl) (fun _ _ _ h => h) (by rfl) ?_ (by assumption) ?_
    rotate_left
    · intro w hSw
      (try dsimp only at hSw)
      go_simp
      (try with_reducible rfl)
    simp only [Act.put, List.setIfInBounds_toArray, List.set_cons_zero, List.set_cons_succ]
    refine take_wanted (i := 12) (v := ?_) rfl (by kernel_rfl) (by kernel_rfl) (by kernel_rfl) (fun _ _ _ h => h) (by rfl) ?_ (by assumption) ?_
    rotate_left
    · intro w hSw
      (try dsimp only at hSw)
      go_simp
      (try with_reducible rfl)
    simp only [Act.put, List.setIfInBounds_toArray, List.set_cons_zero, List.set_cons_succ]
    have HSR := Lib.hid (SameRow_true xs (es.take k) (.slice a2 k cap2) (.slice aa k cap) w13 HRD13.out (readsR_take (HRA.out _ HS13.out.bel) hk) (by rw [HXS.out, HAE.out]) (by rw [HXK.out]; omega) HRT.out)
    refine take_only (i := 13) (by kernel_rfl) rfl (by rfl) (fun K hK => ?_)
    go_simp
    go_at_call 28
    refine (HSR.out).mono ?_
    rintro x w14 ⟨rfl, hb14⟩
    refine hK.out _ _ ?_ (fun hHeld => ?_)
    · exact Q3_below hHeld hb14
    clear hK K
    have HS14 := Lib.hid (HS13.out.below hb14)
    clear hb14 HS13 HSR HRD13
    refine take_wanted (i := 14) (v := ?_) rfl (by kernel_rfl) (by kernel_rfl) (by kernel_rfl) (fun _ _ _ h => h) (by rfl) ?_ (by assumption) ?_
    rotate_left
    · intro w hSw
      (try dsimp only at hSw)
      go_simp
      (try with_reducible rfl)
    simp only [Act.put, List.setIfInBounds_toArray, List.set_cons_zero, List.set_cons_succ]
    refine take_wanted (i := 15) (v := ?_) rfl (by kernel_rfl) (by kernel_rfl) (by kernel_rfl) (fun _ _ _ h => h) (by rfl) ?_ (by assumption) ?_
    rotate_left
    · intro w hSw
      (try dsimp only at hSw)
      go_simp
      (try with_reducible rfl)
    simp only [Act.put, List.setIfInBounds_toArray, List.set_cons_zero, List.set_cons_succ]
    refine take_wanted (i := 16) (v := ?_) rfl (by kernel_rfl) (by kernel_rfl) (by kernel_rfl) (fun _ _ _ h => h) (by rfl) ?_ (by assumption) ?_
    rotate_left
    · intro w hSw
      (try dsimp only at hSw)
      go_simp
      (try with_reducible rfl)
    simp only [Act.put, List.setIfInBounds_toArray, List.set_cons_zero, List.set_cons_succ]
    refine take_wanted (i := 17) (v := ?_) rfl (by kernel_rfl) (by kernel_rfl) (by kernel_rfl) (fun _ _ _ h => h) (by rfl) ?_ (by assumption) ?_
    rotate_left
    · intro w hSw
      (try dsimp only at hSw)
      go_simp
      (try with_reducible rfl)
    simp only [Act.put, List.setIfInBounds_toArray, List.set_cons_zero, List.set_cons_succ]
    refine take_wanted (i := 18) (v := ?_) rfl (by kernel_rfl) (by kernel_rfl) (by kernel_rfl) (fun _ _ _ h => h) (by rfl) ?_ (by assumption) ?_
    rotate_left
    · intro w hSw
      (try dsimp only at hSw)
      go_simp
      (try with_reducible rfl)
    simp only [Act.put, List.setIfInBounds_toArray, List.set_cons_zero, List.set_cons_succ]
    refine take_wanted (i := 19) (v := ?_) rfl (by kernel_rfl) (by kernel_rfl) (by kernel_rfl) (fun _ _ _ h => h) (by rfl) ?_ (by assumption) ?_
    rotate_left
    · intro w hSw
      (try dsimp only at hSw)
      go_simp
      (try with_reducible rfl)
    simp only [Act.put, List.setIfInBounds_toArray, List.set_cons_zero, List.set_cons_succ]
    refine take_wanted (i := 20) (v := ?_) rfl (by kernel_rfl) (by kernel_rfl) (by kernel_rfl) (fun _ _ _ h => h) (by rfl) ?_ (by assumption) ?_
    rotate_left
    · intro w hSw
      (try dsimp only at hSw)
      go_simp
      (try with_reducible rfl)
    simp only [Act.put, List.setIfInBounds_toArray, List.set_cons_zero, List.set_cons_succ]
    refine take_wanted (i := 21) (v := ?_) rfl (by kernel_rfl) (by kernel_rfl) (by kernel_rfl) (fun _ _ _ h => h) (by rfl) ?_ (by assumption) ?_
    rotate_left
    · intro w hSw
      (try dsimp only at hSw)
      go_simp
      (try with_reducible rfl)
    simp only [Act.put, List.setIfInBounds_toArray, List.set_cons_zero, List.set_cons_succ]
    refine take_wanted (i := 23) (v := ?_) rfl (by kernel_rfl) (by kernel_rfl) (by kernel_rfl) (fun _ _ _ h => h) (by rfl) ?_ (by assumption) ?_
    rotate_left
    · intro w hSw
      (try dsimp only at hSw)
      go_simp
      (try with_reducible rfl)
    simp only [Act.put, List.setIfInBounds_toArray, List.set_cons_zero, List.set_cons_succ]
    have HUS := Lib.hid (C.used HS14.out.at_ HIA.out (by decide))
    rw [HU.out] at HUS
    refine take_only (i := 22) (by kernel_rfl) rfl (by rfl) (fun K hK => ?_)
    go_simp
    go_at_call 30
    refine (HUS.out).mono ?_
    rintro x w15 ⟨rfl, hb15⟩
    refine hK.out _ _ ?_ (fun hHeld => ?_)
    · exact Q3_below hHeld hb15
    clear hK K
    have HS15 := Lib.hid (HS14.out.below hb15)
    clear hb15 HS14 HUS
    refine take_wanted (i := 24) (v := ?_) rfl (by kernel_rfl) (by kernel_rfl) (by kernel_rfl) (fun _ _ _ h => h) (by rfl) ?_ (by assumption) ?_
    rotate_left
    · intro w hSw
      (try dsimp only at hSw)
      go_simp
      (try with_reducible rfl)
    simp only [Act.put, List.setIfInBounds_toArray, List.set_cons_zero, List.set_cons_succ]
    refine take_wanted (i := 25) (v := ?_) rfl (by kernel_rfl) (by kernel_rfl) (by kernel_rfl) (fun _ _ _ h => h) (by rfl) ?_ (by assumption) ?_
    rotate_left
    · intro w hSw
      (try dsimp only at hSw)
      go_simp
      (try with_reducible rfl)
    simp only [Act.put, List.setIfInBounds_toArray, List.set_cons_zero, List.set_cons_succ]
    refine take_wanted (i := 26) (v := ?_) rfl (by kernel_rfl) (by kernel_rfl) (by kernel_rfl) (fun _ _ _ h => h) (by rfl) ?_ (by assumption) ?_
    rotate_left
    · intro w hSw
      (try dsimp only at hSw)
      go_simp
      (try with_reducible rfl)
    simp only [Act.put, List.setIfInBounds_toArray, List.set_cons_zero, List.set_cons_succ]
    refine take_wanted (i := 27) (v := ?_) rfl (by kernel_rfl) (by kernel_rfl) (by kernel_rfl) (fun _ _ _ h => h) (by rfl) ?_ (by assumption) ?_
    rotate_left
    · intro w hSw
      (try dsimp only at hSw)
      go_simp
      (try with_reducible rfl)
    simp only [Act.put, List.setIfInBounds_toArray, List.set_cons_zero, List.set_cons_succ]
    refine take_wanted (i := 28) (v := ?_) rfl (by kernel_rfl) (by kernel_rfl) (by kernel_rfl) (fun _ _ _ h => h) (by rfl) ?_ (by assumption) ?_
    rotate_left
    · intro w hSw
      (try dsimp only at hSw)
      go_simp
      (try with_reducible rfl)
    simp only [Act.put, List.setIfInBounds_toArray, List.set_cons_zero, List.set_cons_succ]
    refine take_only (i := 29) (by kernel_rfl) rfl (by rfl) (fun K hK => ?_)
    go_simp
    go_at_call 31
    refine (C.list HS15.out.at_ HIA.out (by decide)).mono ?_
    rintro x w16 ⟨⟨vn, rfl, ⟨na, nc, rfl, -⟩⟩, hb16⟩
    refine hK.out _ _ ?_ (fun hHeld => ?_)
    · exact Q3_below hHeld hb16
    clear hK K
    have HS16 := Lib.hid (HS15.out.below hb16)
    clear hb16 HS15
    rw [show (strCells (([full (nameS ((3 : Nat) : Int)) sb] : List D.F).map D.F.name)).length = 1 by rw [strCells_len]; rfl]
    refine take_wanted (i := 30) (v := ?_) rfl (by kernel_rfl) (by kernel_rfl) (by kernel_rfl) (fun _ _ _ h => h) (by rfl) ?_ (by assumption) ?_
    rotate_left
    · intro w hSw
      (try dsimp only at hSw)
      go_simp
      (try with_reducible rfl)
    simp only [Act.put, List.setIfInBounds_toArray, List.set_cons_zero, List.set_cons_succ]
    refine take_wanted (i := 31) (v := ?_) rfl (by kernel_rfl) (by kernel_rfl) (by kernel_rfl) (fun _ _ _ h => h) (by rfl) ?_ (by assumption) ?_
    rotate_left
    · intro w hSw
      (try dsimp only at hSw)
      go_simp
      (try with_reducible rfl)
    simp only [Act.put, List.setIfInBounds_toArray, List.set_cons_zero, List.set_cons_succ]
    refine take_wanted (i := 32) (v := ?_) rfl (by kernel_rfl) (by kernel_rfl) (by kernel_rfl) (fun _ _ _ h => h) (by rfl) ?_ (by assumption) ?_
    rotate_left
    · intro w hSw
      (try dsimp only at hSw)
      go_simp
      (try with_reducible rfl)
    simp only [Act.put, List.setIfInBounds_toArray, List.set_cons_zero, List.set_cons_succ]
    refine take_wanted (i := 33) (v := ?_) rfl (by kernel_rfl) (by kernel_rfl) (by kernel_rfl) (fun _ _ _ h => h) (by rfl) ?_ (by assumption) ?_
    rotate_left
    · intro w hSw
      (try dsimp only at hSw)
      go_simp
      (try with_reducible rfl)
    simp only [Act.put, List.setIfInBounds_toArray, List.set_cons_zero, List.set_cons_succ]
    refine take_wanted (i := 34) (v := ?_) rfl (by kernel_rfl) (by kernel_rfl) (by kernel_rfl) (fun _ _ _ h => h) (by rfl) ?_ (by assumption) ?_
    rotate_left
    · intro w hSw
      (try dsimp only at hSw)
      go_simp
      (try with_reducible rfl)
    simp only [Act.put, List.setIfInBounds_toArray, List.set_cons_zero, List.set_cons_succ]
    refine take_wanted (i := 35) (v := ?_) rfl (by kernel_rfl) (by kernel_rfl) (by kernel_rfl) (fun _ _ _ h => h) (by rfl) ?_ (by assumption) ?_
    rotate_left
    · intro w hSw
      (try dsimp only at hSw)
      go_simp
      (try with_reducible rfl)
    simp only [Act.put, List.setIfInBounds_toArray, List.set_cons_zero, List.set_cons_succ]
    refine take_wanted (i := 36) (v := ?_) rfl (by kernel_rfl) (by kernel_rfl) (by kernel_rfl) (fun _ _ _ h => h) (by rfl) ?_ (by assumption) ?_
    rotate_left
    · intro w hSw
      (try dsimp only at hSw)
      go_simp
      (try with_reducible rfl)
    simp only [Act.put, List.setIfInBounds_toArray, List.set_cons_zero, List.set_cons_succ]
    refine take_wanted (i := 37) (v := ?_) rfl (by kernel_rfl) (by kernel_rfl) (by kernel_rfl) (fun _ _ _ h => h) (by rfl) ?_ (by assumption) ?_
    rotate_left
    · intro w hSw
      (try dsimp only at hSw)
      go_simp
      (try with_reducible rfl)
    simp only [Act.put, List.setIfInBounds_toArray, List.set_cons_zero, List.set_cons_succ]
    refine take_wanted (i := 38) (v := ?_) rfl (by kernel_rfl) (by kernel_rfl) (by kernel_rfl) (fun _ _ _ h => h) (by rfl) ?_ (by assumption) ?_
    rotate_left
    · intro w hSw
      (try dsimp only at hSw)
      go_simp
      (try with_reducible rfl)
    simp only [Act.put, List.setIfInBounds_toArray, List.set_cons_zero, List.set_cons_succ]
    have HTD : Hid (∀ w', D.But S12 w16 w' → ReadsR w' (.slice (if cap = k then aa else Option.map (fun x => x.add (k * 7)) aa) (es.length - k) (cap - k)) (es.drop k)) := Lib.hid fun w' hb => readsR_rest (HRA.out _ (but_low HS16.out.bel hb HS16.out.lo)) hk
    have HSD : Hid (∀ x ∈ es.drop k, E.Small x.1.b) := Lib.hid fun x hx => HSM.out x (List.mem_of_mem_drop hx)
    have hl2 : (es.drop k).length ≤ 100 := by rw [List.length_drop]; omega
    have HC3 := Lib.hid (Z.add 3 (es.drop k) _ 0 _ HS16.out.at_ HIA.out (by decide) (named_one (by omega) (by omega) _) (by omega) (by omega) HTD.out hl2 HSD.out (by rw [HDE.out]; exact HT3.out))
    clear HTD HSD hl2
    generalize (if cap = k then aa else Option.map (fun x => x.add (k * 7)) aa) = a3 at *
    refine take_only (i := 39) (by kernel_rfl) rfl (by rfl) (fun K hK => ?_)
    go_simp
    go_at_call 24
    refine (HC3.out).mono ?_
    rintro x w17 ⟨rfl, -, hb17⟩
    refine hK.out _ _ ?_ (fun hHeld => ?_)
    · exact Q3_but hHeld hb17 HS16.out.na HNG12.out
    clear hK K
    have HB17 : Hid (Below w.heap.size w w17) := Lib.hid (but_low HS16.out.bel hb17 HS16.out.lo)
    clear hb17 HS16 HC3
    refine take_wanted (i := 40) (v := ?_) rfl (by kernel_rfl) (by kernel_rfl) (by kernel_rfl) (fun _ _ _ h => h) (by rfl) ?_ (by assumption) ?_
    rotate_left
    · intro w hSw
      (try dsimp only at hSw)
      go_simp
      (try with_reducible rfl)
    simp only [Act.put, List.setIfInBounds_toArray, List.set_cons_zero, List.set_cons_succ]
    refine take_wanted (i := 41) (v := ?_) rfl (by kernel_rfl) (by kernel_rfl) (by kernel_rfl) (fun _ _ _ h => h) (by rfl) ?_ (by assumption) ?_
    rotate_left
    · intro w hSw
      (try dsimp only at hSw)
      go_simp
      (try with_reducible rfl)
    simp only [Act.put, List.setIfInBounds_toArray, List.set_cons_zero, List.set_cons_succ]
    refine take_wanted (i := 42) (v := ?_) rfl (by kernel_rfl) (by kernel_rfl) (by kernel_rfl) (fun _ _ _ h => h) (by rfl) ?_ (by assumption) ?_
    rotate_left
    · intro w hSw
      (try dsimp only at hSw)
      go_simp
      (try with_reducible rfl)
    simp only [Act.put, List.setIfInBounds_toArray, List.set_cons_zero, List.set_cons_succ]
    refine wpAnyH_done (by kernel_rfl) ?_ _
    go_wp2
    go_ret
    exact ⟨rfl, HB17.out⟩
end Go.Proofs.YtpdnbpihkiijkaaGreatDoor.G
