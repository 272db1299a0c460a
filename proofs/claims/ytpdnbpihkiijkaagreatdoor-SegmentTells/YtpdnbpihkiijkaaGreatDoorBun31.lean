/-
  Own texts, joined: SegLTells SegLCuts
-/
import Derived.Test.YtpdnbpihkiijkaaGreatDoorBun29
import Derived.Test.YtpdnbpihkiijkaaGreatDoorBun26

/-
  The walk of the law SegmentTells over any segment package that keeps its contracts.
-/
namespace Go.Proofs.YtpdnbpihkiijkaaGreatDoor.G
open Go.RowKit
open D (dP)
attribute [local go_sem] ext_Bd ext_Bl ext_Bt toList_B add_B size_B get_Bt

theorem fit_small {b : E.Bat} (h : E.fits b = 0) : E.Small b := by
  obtain ⟨hh, _, hr⟩ := E.fits_inv h
  have h1 := (nameL_len hh.1).2
  refine E.Small.of (by omega) fun e he => ?_
  have := E.right_bd (List.all_eq_true.1 hr e he)
  omega
theorem right_small {e : R.En} (h : R.right e = true) : E.Small e.b := fit_small (R.right_iff.1 h).2.2.2.2
theorem right_events {e : R.En} (h : R.right e = true) : e.b.events.length ≤ 1000000 := by
  have := (E.fits_inv (R.right_iff.1 h).2.2.2.2).2.1
  omega
theorem frames_ge {k : Nat} : ∀ {l : List Tx}, (∀ p ∈ l, k ≤ p.length) → l.length * (k + 8) ≤ (F.frames l).length
  | [], _ => by simp
  | p :: l, h => by
    have h1 := h p (by simp)
    have h2 := frames_ge (l := l) fun q hq => h q (by simp [hq])
    rw [F.frames_cons, List.length_append, F.frame_len, List.length_cons, Nat.add_mul]
    omega
theorem seg_many {n : Nat} {es : List R.En} {s r : Tx} (h : s = segB n es ++ r) : es.length * 9 ≤ s.length := by
  have := frames_ge (k := 1) (l := es.map pay) fun p hp => by
    obtain ⟨e, _, rfl⟩ := List.mem_map.1 hp
    simp [pay]
  rw [h, List.length_append, segB_eq, List.length_append]
  rw [List.length_map] at this
  omega
/-- Cut, of a file that need not be synced. -/
theorem cut_any {room : Nat} {nm s : Tx} {y n : Nat} {es : List R.En} {t : Bool} {last : Int} {l : List D.F} (hn : nameL nm = true) (hs : D.Sorted l) (hf : D.find nm l = some ⟨nm, s, y⟩) (hl : loadL s = some (n, es, t)) (ht : D.find temp l = none) (h40 : l.length < 40) (hr : D.used l + (segB n (upto last es)).length ≤ room) : ∃ z, cutD room nm last l = (0, D.put ⟨nm, segB n (upto last es), z⟩ l) := by
  have h5 := (load_is hl).2.2.2.2
  by_cases hc : t = false ∧ (upto last es).length = es.length
  · refine ⟨y, ?_⟩
    have h6 : segB n es = s := by
      have h6 := hc.1
      rw [h5, decide_eq_false_iff_not, Decidable.not_not] at h6
      exact h6
    have hu : upto last es = es := (List.takeWhile_prefix _).eq_of_length hc.2
    unfold cutD
    rw [load_find hf hl]
    dsimp only
    rw [if_pos hc, hu, h6, put_self hs (by exact hf)]
  · refine ⟨(segB n (upto last es)).length, ?_⟩
    unfold cutD
    rw [load_find hf hl]
    dsimp only
    rw [if_neg hc, D.del_none ht, append_new (by decide) ht h40 hr, if_pos rfl]
    dsimp only
    rw [sync_put]
    dsimp only
    have hp := D.find_put (f := full temp (segB n (upto last es))) l
    unfold D.rename
    rw [show (full temp (segB n (upto last es))).name = temp from rfl] at hp
    rw [hp]
    dsimp only
    rw [if_neg (by rw [hn]; decide)]
    have hd := D.del_put (f := full temp (segB n (upto last es))) (l := l) ht
    rw [show (full temp (segB n (upto last es))).name = temp from rfl] at hd
    rw [hd]
    rfl
abbrev nm2 : Tx := [115, 101, 103, 45, 50]
theorem name2 : nameS ((2 : Nat) : Int) = nm2 := name_small (n := 2) (by omega) (by omega)
theorem find_two (s : Tx) (y : Nat) : D.find nm2 [⟨nm2, s, y⟩] = some ⟨nm2, s, y⟩ := by rw [D.find, if_pos rfl]
theorem inv_two {room y : Nat} {s : Tx} (h : s.length ≤ room) (hy : y ≤ s.length) : D.Inv room [⟨nm2, s, y⟩] :=
  ⟨List.pairwise_singleton _ _, fun f hf => by rw [List.mem_singleton] at hf; subst hf; exact hy, by simp, by simpa [D.used] using h⟩
theorem named_two (s : Tx) (y : Nat) : Named [⟨nm2, s, y⟩] := fun f hf => by
  rw [List.mem_singleton] at hf
  subst hf
  show nameL nm2 = true
  decide +kernel
theorem tells_append {s : Tx} (h : s.length ≤ 9000) : D.append 1048576 nm2 s [] = (0, [⟨nm2, s, 0⟩]) :=
  append_new (by decide +kernel) rfl (by simp) (by simp [D.used]; omega)
theorem tells_none {s : Tx} {y : Nat} (h : loadL s = none) : loadD (nameS ((2 : Nat) : Int)) [⟨nm2, s, y⟩] = (2, 0, [], false) := by
  rw [name2]
  unfold loadD
  rw [find_two]
  dsimp only
  rw [h]
theorem tells_cutno {s : Tx} {y : Nat} {last : Int} (h : loadL s = none) : cutD 1048576 (nameS ((2 : Nat) : Int)) last [⟨nm2, s, y⟩] = (2, [⟨nm2, s, y⟩]) := by
  unfold cutD
  rw [tells_none h]
theorem tells_some {s : Tx} {y : Nat} {x : Nat × List R.En × Bool} (h : loadL s = some x) : loadD (nameS ((2 : Nat) : Int)) [⟨nm2, s, y⟩] = (0, x) := by
  rw [name2]
  exact load_find (find_two _ _) h
theorem tells_cut {s : Tx} {n : Nat} {es : List R.En} {t : Bool} (hs : s.length ≤ 9000) (h : loadL s = some (n, es, t)) : ∃ z, z ≤ (segB n es).length ∧ cutD 1048576 (nameS ((2 : Nat) : Int)) 549755813888 [⟨nm2, s, 0⟩] = (0, [⟨nm2, segB n es, z⟩]) := by
  obtain ⟨h1, h2, hfl, ⟨r, hr⟩, _⟩ := load_is h
  have hu : upto 549755813888 es = es := upto_all fun e he => by
    have h3 := (R.right_iff.1 (R.follows_right hfl e he)).2.1
    have hlg : R.large = 274877906944 := rfl
    omega
  have hl : (segB n es).length ≤ 9000 := by
    have := congrArg List.length hr
    rw [List.length_append] at this
    omega
  obtain ⟨z, hz⟩ := cut_any (room := 1048576) (last := 549755813888) (y := 0) (l := [⟨nm2, s, 0⟩]) (by decide +kernel) (List.pairwise_singleton _ _) (find_two s 0) h (by rw [D.find, if_neg (show ¬ nm2 = temp by decide)]; rfl) (by simp) (by rw [hu]; simp [D.used]; omega)
  rw [hu] at hz
  have hp : D.put ⟨nm2, segB n es, z⟩ [⟨nm2, s, 0⟩] = [⟨nm2, segB n es, z⟩] := by
    unfold D.put
    rw [if_neg (by show ¬ D.lt nm2 nm2 = true; rw [D.lt_irrefl]; decide), if_pos rfl]
  rw [hp] at hz
  rw [name2]
  refine ⟨z, ?_, hz⟩
  have hi := cutD_inv (nm := nm2) (last := 549755813888) (inv_two (room := 1048576) (y := 0) (s := s) (by omega) (by omega))
  rw [hz] at hi
  exact hi.syn _ (List.mem_singleton.2 rfl)

set_option maxHeartbeats 8000000 in
set_option maxRecDepth 100000 in
theorem tells_walk {C : D.DC} (Z : SC C) (s : Tx) (w : World) (hsm : s.length ≤ 9223372036854775807) :
    Calls Tryz.prog 8 #[.string (B s)] w fun x w' => x = .returned (.bool true) ∧ Below w.heap.size w w' := by
  go_enter Tryz.func8, Tryz.ntmps8
  go_wp2_with fail
  refine (shown9_l Z w).mono ?_
  rintro x w1 ⟨rfl, hb1⟩
  have HB1 := Lib.hid hb1
  clear hb1
  go_wp2_with fail
  refine (begun9_l C (bs := w.heap.size) 1048576 w1 HB1.out.size (by omega) (by omega)).mono ?_
  rintro x w2 ⟨⟨p, m, S, rfl, hd, -, -, -⟩, hb2⟩
  have HB2 := Lib.hid (HB1.out.trans (hb2.mono HB1.out.size))
  have HD2 := Lib.hid hd
  have HA := Lib.hid ((Below.refl w2.heap.size w2).alloc (Nat.le_refl _) (.cells #[dP p, .pointer (some ⟨m, 0, none⟩)] 28))
  have HXA := Lib.hid (heap_alloc_new w2 (.cells #[dP p, .pointer (some ⟨m, 0, none⟩)] 28))
  have HBA := Lib.hid (HB2.out.trans (HA.out.mono HB2.out.size))
  clear hd hb2 HB1
  by_cases h9 : 9000 < s.length
  · have h9i : (9000 : Int) < (s.length : Int) := by omega
    go_wp2
    go_ret
    exact ⟨rfl, HBA.out⟩
  have h9i : ¬ (9000 : Int) < (s.length : Int) := by omega
  have hs9 : s.length ≤ 9000 := by omega
  have hp0 : (w2.alloc (.cells #[dP p, .pointer (some ⟨m, 0, none⟩)] 28)).cell? ⟨w2.heap.size, 0, none⟩ = some (dP p) := by rw [blk9 HXA.out]; rfl
  have HDA := Lib.hid (C.below HD2.out HA.out)
  have HNA : Hid (¬ S w2.heap.size) := Lib.hid fun h => by have := (C.low HD2.out h).2; omega
  have HZA : Hid (w2.heap.size < (w2.alloc (.cells #[dP p, .pointer (some ⟨m, 0, none⟩)] 28)).heap.size) := Lib.hid (by simp)
  have HAP := Lib.hid (tells_append hs9)
  go_wp2_with fail
  clear HA HXA HB2 HD2
  generalize w2.alloc (.cells #[dP p, .pointer (some ⟨m, 0, none⟩)] 28) = wA at *
  generalize w2.heap.size = ga at *
  refine (C.append nm2 s 0 _ HDA.out (D.inv_nil _) (by omega) (by simp) (by omega) HAP.out).mono ?_
  rintro x w3 ⟨rfl, ⟨S3, hd3, hg3⟩, hb3⟩
  have HD3 := Lib.hid hd3
  have hp3 := cell_but hp0 hb3 HNA.out
  have HN3 : Hid (¬ S3 ga) := Lib.hid fun h => by
    rcases hg3 ga h with h | h
    · exact HNA.out h
    · have := HZA.out; omega
  have HB3 : Hid (Below w.heap.size w w3) := Lib.hid (but_low HBA.out hb3 fun k hk => (C.low HDA.out hk).1)
  have HI1 := Lib.hid (inv_two (room := 1048576) (y := 0) (s := s) (by omega) (by omega))
  clear hd3 hg3 hb3 hp0 HNA HBA HDA HZA HAP
  cases hl : loadL s with
  | none =>
    have HL := Lib.hid hl
    clear hl
    go_wp2_with fail
    refine (Z.load 2 2 0 [] false HD3.out HI1.out (by omega) (named_two _ _) (by omega) (tells_none HL.out)).mono ?_
    rintro x w4 ⟨⟨v, xs, rfl, hxs, hrd⟩, hb4⟩
    have hxl : xs.length = 0 := by rw [← ensOf_len, hxs]; rfl
    obtain ⟨a, cap, hv, -⟩ := hrd w4 (D.But.refl _ _)
    rw [hxl] at hv
    subst hv
    have hp4 := below_keeps hb4 _ _ hp3
    have HD4 := Lib.hid (C.below HD3.out hb4)
    have HB4 := Lib.hid (HB3.out.trans (hb4.mono HB3.out.size))
    clear hrd hxs hxl hb4 HD3 HB3 hp3 HN3
    have hal : Below w4.heap.size w4 (w4.alloc (.cells #[.int .i64 0, .slice a 0 cap, .bool false] 38)) := (Below.refl _ _).alloc (Nat.le_refl _) _
    have hp5 := below_keeps hal _ _ hp4
    have HD5 := Lib.hid (C.below HD4.out hal)
    have HB5 := Lib.hid (HB4.out.trans (hal.mono HB4.out.size))
    have hnew := heap_alloc_new w4 (.cells #[.int .i64 0, .slice a 0 cap, .bool false] 38)
    have c0 : (w4.alloc (.cells #[.int .i64 0, .slice a 0 cap, .bool false] 38)).cell? ⟨w4.heap.size, 0, none⟩ = some (.int .i64 0) := by rw [blk9 hnew]; rfl
    have c1 : (w4.alloc (.cells #[.int .i64 0, .slice a 0 cap, .bool false] 38)).cell? ⟨w4.heap.size, 1, none⟩ = some (.slice a 0 cap) := by rw [blk9 hnew]; rfl
    clear hal hnew hp4 HB4 HD4
    go_wp2_with fail
    refine (Z.cut 2 5 2 _ HD5.out HI1.out (by omega) (named_two _ _) (by omega) (by omega) ⟨by omega, by omega⟩ (tells_cutno HL.out)).mono ?_
    rintro x w6 ⟨rfl, -, hb6⟩
    have HB6 : Hid (Below w.heap.size w w6) := Lib.hid (but_low HB5.out hb6 fun k hk => (C.low HD5.out hk).1)
    clear hb6
    go_wp2
    go_ret
    exact ⟨rfl, HB6.out⟩
  | some q =>
    obtain ⟨n, es, t⟩ := q
    have HL := Lib.hid hl
    have HIS := Lib.hid (load_is hl)
    clear hl
    have hn1 : (1 : Int) ≤ (n : Int) := by have := HIS.out.1; omega
    have hn2 : (n : Int) ≤ 274877906944 := by have := HIS.out.2.1; unfold far at this; omega
    go_wp2_with fail
    refine (Z.load 2 0 n es t HD3.out HI1.out (by omega) (named_two _ _) (by omega) (tells_some HL.out)).mono ?_
    rintro x w4 ⟨⟨v, xs, rfl, hxs, hrd⟩, hb4⟩
    obtain ⟨k, hk⟩ : ∃ k, xs.length = k := ⟨_, rfl⟩
    obtain ⟨a, cap, hv, -⟩ := hrd w4 (D.But.refl _ _)
    rw [hk] at hv
    subst hv
    have HXS := Lib.hid hxs
    have HRD := Lib.hid hrd
    have HK := Lib.hid hk
    have hk1 : k ≤ 1000 := by
      obtain ⟨r, hr⟩ := HIS.out.2.2.2.1
      have h1 := seg_many hr
      have h2 : es.length = k := by rw [← hxs, ensOf_len, hk]
      omega
    have HRT : Hid (∀ x ∈ xs, R.right x.1 = true) := Lib.hid fun x hx => R.follows_right HIS.out.2.2.1 x.1 (by rw [← hxs]; exact List.mem_map.2 ⟨x, hx, rfl⟩)
    have hp4 := below_keeps hb4 _ _ hp3
    have HD4 := Lib.hid (C.below HD3.out hb4)
    have HB4 := Lib.hid (HB3.out.trans (hb4.mono HB3.out.size))
    clear hrd hxs hk hb4 HD3 HB3 hp3
    have hal : Below w4.heap.size w4 (w4.alloc (.cells #[.int .i64 (n : Int), .slice a k cap, .bool t] 38)) := (Below.refl _ _).alloc (Nat.le_refl _) _
    have hp5 := below_keeps hal _ _ hp4
    have HD5 := Lib.hid (C.below HD4.out hal)
    have HB5 := Lib.hid (HB4.out.trans (hal.mono HB4.out.size))
    have hnew := heap_alloc_new w4 (.cells #[.int .i64 (n : Int), .slice a k cap, .bool t] 38)
    have c0 : (w4.alloc (.cells #[.int .i64 (n : Int), .slice a k cap, .bool t] 38)).cell? ⟨w4.heap.size, 0, none⟩ = some (.int .i64 (n : Int)) := by rw [blk9 hnew]; rfl
    have c1 : (w4.alloc (.cells #[.int .i64 (n : Int), .slice a k cap, .bool t] 38)).cell? ⟨w4.heap.size, 1, none⟩ = some (.slice a k cap) := by rw [blk9 hnew]; rfl
    have HRD5 : Hid (∀ w2, D.But S3 (w4.alloc (.cells #[.int .i64 (n : Int), .slice a k cap, .bool t] 38)) w2 → ReadsR w2 (.slice a k cap) xs) := Lib.hid fun w2 hb => HRD.out w2 ((D.But.of_below hal).trans hb)
    have HNG : Hid (¬ S3 w4.heap.size) := Lib.hid fun h => by have := (C.low HD4.out h).2; omega
    have HZG : Hid (w4.heap.size < (w4.alloc (.cells #[.int .i64 (n : Int), .slice a k cap, .bool t] 38)).heap.size) := Lib.hid (by simp)
    have HFO := Lib.hid (Follows_at xs (.slice a k cap) ((n : Int) - 1) 0 true (w4.alloc (.cells #[.int .i64 (n : Int), .slice a k cap, .bool t] 38)) (HRD5.out _ (D.But.refl _ _)) (by rw [HK.out]; exact hk1) (fun x hx => right_small (HRT.out x hx)) ⟨by omega, by omega⟩ (Lib.hid (by rw [HXS.out]; exact HIS.out.2.2.1)))
    clear hal hnew hp4 HB4 HD4 HRD
    have hnlt : ¬ (n : Int) < 1 := by omega
    go_wp2_with fail
    generalize w4.alloc (.cells #[.int .i64 (n : Int), .slice a k cap, .bool t] 38) = w5 at *
    generalize w4.heap.size = gb at *
    refine HFO.out.mono ?_
    rintro x w6 ⟨rfl, hb6⟩
    have hp6 := below_keeps hb6 _ _ hp5
    have d0 := below_keeps hb6 _ _ c0
    have d1 := below_keeps hb6 _ _ c1
    have HD6 := Lib.hid (C.below HD5.out hb6)
    have HB6 := Lib.hid (HB5.out.trans (hb6.mono HB5.out.size))
    have HRD6 : Hid (∀ w2, D.But S3 w6 w2 → ReadsR w2 (.slice a k cap) xs) := Lib.hid fun w2 hb => HRD5.out w2 ((D.But.of_below hb6).trans hb)
    have HZG6 : Hid (gb < w6.heap.size) := Lib.hid (Nat.lt_of_lt_of_le HZG.out hb6.size)
    clear hb6 hp5 c0 c1 HD5 HB5 HRD5 HFO HZG
    obtain ⟨z, hz1, hz2⟩ := tells_cut hs9 HL.out
    have HZ1 := Lib.hid hz1
    have HZ2 := Lib.hid hz2
    clear hz1 hz2
    go_wp2_with fail
    refine (Z.cut 2 549755813888 0 _ HD6.out HI1.out (by omega) (named_two _ _) (by omega) (by omega) ⟨by omega, by omega⟩ HZ2.out).mono ?_
    rintro x w7 ⟨rfl, ⟨S7, hd7, hg7⟩, hb7⟩
    have HD7 := Lib.hid hd7
    have hp7 := cell_but hp6 hb7 HN3.out
    have e0 := cell_but d0 hb7 HNG.out
    have e1 := cell_but d1 hb7 HNG.out
    have HB7 : Hid (Below w.heap.size w w7) := Lib.hid (but_low HB6.out hb7 fun k hk => (C.low HD6.out hk).1)
    have HR7 := Lib.hid (HRD6.out w7 hb7)
    have HI7 : Hid (D.Inv 1048576 [⟨nm2, segB n es, z⟩]) := Lib.hid (inv_two (by
      obtain ⟨r, hr⟩ := HIS.out.2.2.2.1
      have := congrArg List.length hr
      rw [List.length_append] at this
      omega) HZ1.out)
    have HL7 := Lib.hid (load_seg HIS.out.1 HIS.out.2.1 HIS.out.2.2.1)
    clear hd7 hg7 hb7 hp6 d0 d1 HD6 HB6 HRD6
    go_wp2_with fail
    refine (Z.load 2 0 n es false HD7.out HI7.out (by omega) (named_two _ _) (by omega) (tells_some HL7.out)).mono ?_
    rintro x w8 ⟨⟨v, ys, rfl, hys, hrd⟩, hb8⟩
    have hyk : ys.length = k := by rw [← ensOf_len, hys, ← HXS.out, ensOf_len, HK.out]
    obtain ⟨a2, cap2, hv, -⟩ := hrd w8 (D.But.refl _ _)
    rw [hyk] at hv
    subst hv
    have HB8 := Lib.hid (HB7.out.trans (hb8.mono HB7.out.size))
    have f0 := below_keeps hb8 _ _ e0
    have f1 := below_keeps hb8 _ _ e1
    have HR8 := Lib.hid (readsR_below HR7.out hb8)
    have hal : Below w8.heap.size w8 (w8.alloc (.cells #[.int .i64 (n : Int), .slice a2 k cap2, .bool false] 38)) := (Below.refl _ _).alloc (Nat.le_refl _) _
    have HB9 := Lib.hid (HB8.out.trans (hal.mono HB8.out.size))
    have hnew := heap_alloc_new w8 (.cells #[.int .i64 (n : Int), .slice a2 k cap2, .bool false] 38)
    have g0 : (w8.alloc (.cells #[.int .i64 (n : Int), .slice a2 k cap2, .bool false] 38)).cell? ⟨w8.heap.size, 0, none⟩ = some (.int .i64 (n : Int)) := by rw [blk9 hnew]; rfl
    have g1 : (w8.alloc (.cells #[.int .i64 (n : Int), .slice a2 k cap2, .bool false] 38)).cell? ⟨w8.heap.size, 1, none⟩ = some (.slice a2 k cap2) := by rw [blk9 hnew]; rfl
    have g2 : (w8.alloc (.cells #[.int .i64 (n : Int), .slice a2 k cap2, .bool false] 38)).cell? ⟨w8.heap.size, 2, none⟩ = some (.bool false) := by rw [blk9 hnew]; rfl
    have q0 := below_keeps hal _ _ f0
    have q1 := below_keeps hal _ _ f1
    have hsame := SameRow_true ys xs (.slice a2 k cap2) (.slice a k cap) (w8.alloc (.cells #[.int .i64 (n : Int), .slice a2 k cap2, .bool false] 38)) (hrd _ (D.But.of_below hal)) (readsR_below HR8.out hal) (by rw [hys, HXS.out]) (by rw [hyk]; exact hk1) (fun x hx => right_events (HRT.out x hx))
    have HSA := Lib.hid hsame
    have HYK := Lib.hid hyk
    clear hsame hrd hys hyk hal hnew hb8 f0 f1 e0 e1 HB7 HD7 HR7 HR8 HB8
    go_wp2_with fail
    refine HSA.out.mono ?_
    rintro x w10 ⟨rfl, hb10⟩
    have HB10 := Lib.hid (HB9.out.trans (hb10.mono HB9.out.size))
    clear hb10
    go_wp2
    go_ret
    exact ⟨rfl, HB10.out⟩
end Go.Proofs.YtpdnbpihkiijkaaGreatDoor.G

/-
  The walk of the law SegmentCuts over any segment package that keeps its contracts.
-/
namespace Go.Proofs.YtpdnbpihkiijkaaGreatDoor.G
open Go.RowKit
open D (dP)
attribute [local go_sem] ext_Bd ext_Bl ext_Bt toList_B add_B size_B get_Bt

theorem fit_small {b : E.Bat} (h : E.fits b = 0) : E.Small b := by
  obtain ⟨hh, _, hr⟩ := E.fits_inv h
  have h1 := (nameL_len hh.1).2
  refine E.Small.of (by omega) fun e he => ?_
  have := E.right_bd (List.all_eq_true.1 hr e he)
  omega
theorem right_events {e : R.En} (h : R.right e = true) : e.b.events.length ≤ 1000000 := by
  have := (E.fits_inv (R.right_iff.1 h).2.2.2.2).2.1
  omega
abbrev Q3 (ga gb : Nat) (d v : Value) (w : World) : Prop := w.cell? ⟨ga, 0, none⟩ = some d ∧ w.cell? ⟨gb, 1, none⟩ = some v ∧ w.cell? ⟨gb, 2, none⟩ = some (.bool false)
theorem Q3_below {ga gb : Nat} {d v : Value} {w w' : World} (h : Q3 ga gb d v w) (hb : Below w.heap.size w w') : Q3 ga gb d v w' :=
  ⟨below_keeps hb _ _ h.1, below_keeps hb _ _ h.2.1, below_keeps hb _ _ h.2.2⟩
theorem Q3_but {ga gb : Nat} {d v : Value} {w w' : World} {S : Nat → Prop} (h : Q3 ga gb d v w) (hb : D.But S w w') (ha : ¬ S ga) (hg : ¬ S gb) : Q3 ga gb d v w' :=
  ⟨cell_but h.1 hb ha, cell_but h.2.1 hb hg, cell_but h.2.2 hb hg⟩
theorem full_one (nm s : Tx) : D.Full [full nm s] := fun f hf => by
  rw [List.mem_singleton] at hf
  subst hf
  rfl
theorem cut_law {j n : Nat} {es : List R.En} {last : Int} (hj : 1 ≤ j) (hj9 : j ≤ 9) (h1 : 1 ≤ n) (h2 : n ≤ far) (hw : R.follows es ((n : Int) - 1) 0 = true) (hl : es.length ≤ 40) : cutD room20 (nameS (j : Int)) last [full (nameS (j : Int)) (segB n es)] = (0, [full (nameS (j : Int)) (segB n (upto last es))]) := by
  have hr := follows_all hw
  have hu : ∀ e ∈ upto last es, R.right e = true := fun e he => hr e (upto_mem he).1
  have hul : (upto last es).length ≤ es.length := (List.takeWhile_prefix _).length_le
  have a1 := segB_len h2 hr
  have a2 := segB_len h2 hu
  have b1 : es.length * 2921 ≤ 40 * 2921 := Nat.mul_le_mul_right _ hl
  have b2 : (upto last es).length * 2921 ≤ 40 * 2921 := Nat.mul_le_mul_right _ (by omega)
  exact cut_one hj hj9 (load_seg h1 h2 hw) (by unfold room20; omega)
theorem law_load {j n : Nat} {es : List R.En} (h1 : 1 ≤ n) (h2 : n ≤ far) (hw : R.follows es ((n : Int) - 1) 0 = true) : loadD (nameS (j : Int)) [full (nameS (j : Int)) (segB n es)] = (0, n, es, false) := load_one h1 h2 hw
set_option maxHeartbeats 8000000 in
set_option maxRecDepth 100000 in
theorem cuts_walk {C : D.DC} (Z : SC C) (es : List EV) (va : Value) (last : Int) (w : World) (hla : i64B last) (hA : ReadsR w va es) :
    Calls Tryz.prog 6 #[va, .int .i64 last] w fun x w' => x = .returned (.bool true) ∧ Below w.heap.size w w' := by
  have HV := Lib.hid hA
  have HLA := Lib.hid hla
  clear hla
  obtain ⟨aa, cap, hva, hle, hnone, hx0⟩ := hA
  subst hva
  have HX0 := Lib.hid hx0
  clear hx0
  go_enter Tryz.func6, Tryz.ntmps6
  go_wp2_with fail
  refine (shown9_l Z w).mono ?_
  rintro x w1 ⟨rfl, hb1⟩
  have HB1 := Lib.hid hb1
  clear hb1
  go_wp2_with fail
  refine (fits9_l es _ w1 (readsR_below HV.out HB1.out)).mono ?_
  rintro x w2 ⟨hok, hb2⟩
  have HB2 := Lib.hid (HB1.out.trans (hb2.mono HB1.out.size))
  have HOK : Hid (x = .returned (.bool true) → LightAll es) := Lib.hid fun h => by
    rcases hok with h1 | ⟨-, h2⟩
    · rw [h] at h1; cases h1
    · exact h2
  obtain ⟨ok, rfl⟩ : ∃ ok, x = .returned (.bool ok) := by rcases hok with h | ⟨h, -⟩ <;> exact ⟨_, h⟩
  clear hok hb2 HB1
  go_wp2_with fail
  refine (begun9_l C (bs := w.heap.size) 1048576 w2 HB2.out.size (by omega) (by omega)).mono ?_
  rintro x w3 ⟨⟨p, m, S, rfl, hd, -, -, -⟩, hb3⟩
  have HB3 := Lib.hid (HB2.out.trans (hb3.mono HB2.out.size))
  have hal3 : Below w3.heap.size w3 (w3.alloc (.cells #[dP p, .pointer (some ⟨m, 0, none⟩)] 28)) := (Below.refl _ _).alloc (Nat.le_refl _) _
  have hnew3 := heap_alloc_new w3 (.cells #[dP p, .pointer (some ⟨m, 0, none⟩)] 28)
  have HS4 : Hid (OneAt C w p w3.heap.size (w3.alloc (.cells #[dP p, .pointer (some ⟨m, 0, none⟩)] 28)) [] S) := Lib.hid ⟨C.below hd hal3, by rw [blk9 hnew3]; rfl, fun h => by have := (C.low hd h).2; omega, HB3.out.trans (hal3.mono HB3.out.size)⟩
  clear hd hb3 HB2 hal3 hnew3 HB3
  cases ok
  · go_wp2
    go_ret
    exact ⟨rfl, HS4.out.bel⟩
  have HLI := Lib.hid (HOK.out rfl)
  have h40 : es.length ≤ 40 := HLI.out.1
  clear HOK
  go_upto_if 38 with (fail)
  generalize w3.alloc (.cells #[dP p, .pointer (some ⟨m, 0, none⟩)] 28) = w4 at *
  generalize w3.heap.size = ga at *
  obtain ⟨f, HF⟩ : ∃ f, Hid (f = firstZ (ensOf es)) := ⟨_, Lib.hid rfl⟩
  have hfb : i64B f := by
    rw [HF.out]
    cases es with
    | nil => exact ⟨by decide, by decide⟩
    | cons e l => exact (HX0.out 0 (by simp)).2.1
  go_cut [9] (fun x wx => x = .int .i64 f ∧ w4 = wx)
  case first =>
    by_cases h0 : es.length = 0
    · have hz : es = [] := List.eq_nil_of_length_eq_zero h0
      have hf1 : f = 1 := by rw [HF.out, hz]; rfl
      have h0i : ¬ (0 : Int) < (es.length : Int) := by omega
      clear hz h0
      go_wp2
      go_meet
      exact ⟨int_eq hf1.symm, rfl⟩
    · have h0i : (0 : Int) < (es.length : Int) := by omega
      obtain ⟨-, -, b, off, hab, h7⟩ := HX0.out 0 (by omega)
      subst hab
      have hf1 : f = (es[0]'(by omega)).1.pos := by
        rw [HF.out]
        cases es with
        | nil => exact absurd rfl h0
        | cons e l => rfl
      have z0 := below_keeps HS4.out.bel _ _ h7.1
      rw [Nat.zero_mul, Nat.add_zero, ← hf1] at z0
      clear h7 hf1
      go_wp2
      go_meet
      exact ⟨rfl, rfl⟩
  case rest =>
  obtain ⟨rfl, rfl⟩ := hcut
  have HRA : Hid (∀ w', Below w.heap.size w w' → ReadsR w' (.slice aa es.length cap) es) := Lib.hid fun w' h => readsR_below HV.out h
  have hp4 := HS4.out.pa
  by_cases hfr : ¬ (1 ≤ f ∧ f ≤ 274877906944)
  · go_wp2_with fail
    refine (Z.create 3 f 1 _ HS4.out.at_ (D.inv_nil _) (by decide) Named.nil (by omega) (by omega) hfb (create_arg (by unfold far; omega))).mono ?_
    rintro x w7 ⟨rfl, -, hb7⟩
    have HB7 : Hid (Below w.heap.size w w7) := Lib.hid (but_low HS4.out.bel hb7 HS4.out.lo)
    clear hb7
    go_wp2
    go_ret
    exact ⟨rfl, HB7.out⟩
  obtain ⟨n, HFN⟩ : ∃ n : Nat, Hid (f = (n : Int) ∧ 1 ≤ n ∧ n ≤ far) := ⟨f.toNat, Lib.hid ⟨by omega, by omega, by unfold far; omega⟩⟩
  have hn1 := HFN.out.2.1
  have hn2 := HFN.out.2.2
  have hfn := HFN.out.1
  clear hfr
  have HCR := Lib.hid (law_create (j := 3) (by omega) (by omega) hn1 hn2)
  rw [← hfn] at HCR
  clear hfn
  have HSM := Lib.hid (light_of HLI.out)
  go_wp2_with fail
  refine (Z.create 3 f 0 _ HS4.out.at_ (D.inv_nil _) (by decide) Named.nil (by omega) (by omega) hfb HCR.out).mono ?_
  rintro x w5 ⟨rfl, ⟨S5, hd5, hg5⟩, hb5⟩
  have HS5 := Lib.hid (HS4.out.next hd5 hg5 hb5)
  have HI5 := Lib.hid (inv_seg (nm := (nameS ((3 : Nat) : Int))) (n := n) (es := []) hn2 (fun _ h => by cases h) (by simp))
  clear hd5 hg5 hb5 HS4 hp4
  have hp5 := HS5.out.pa
  have HR5 : Hid (∀ w', D.But S5 w5 w' → ReadsR w' (.slice aa es.length cap) es) := Lib.hid fun w' hb => HRA.out _ (but_low HS5.out.bel hb HS5.out.lo)
  by_cases hfo : R.follows (ensOf es) ((n : Int) - 1) 0 = true
  case neg =>
    have HG := Lib.hid (law_gap (j := 3) hn1 hn2 (by simpa using hfo))
    clear hfo
    go_wp2_with fail
    refine (Z.add 3 es _ 11 _ HS5.out.at_ HI5.out (by decide) (named_one (by omega) (by omega) _) (by omega) (by omega) HR5.out (by omega) HSM.out HG.out).mono ?_
    rintro x w8 ⟨rfl, -, hb8⟩
    have HB8 : Hid (Below w.heap.size w w8) := Lib.hid (but_low HS5.out.bel hb8 HS5.out.lo)
    clear hb8
    go_wp2
    go_ret
    exact ⟨rfl, HB8.out⟩
  have HFO := Lib.hid hfo
  clear hfo
  have HAD := Lib.hid (law_add (j := 3) (a := []) (by omega) (by omega) hn1 hn2 HFO.out (by rw [List.nil_append, ensOf_len]; exact h40))
  rw [List.nil_append] at HAD
  go_wp2_with fail
  refine (Z.add 3 es _ 0 _ HS5.out.at_ HI5.out (by decide) (named_one (by omega) (by omega) _) (by omega) (by omega) HR5.out (by omega) HSM.out HAD.out).mono ?_
  rintro x w6 ⟨rfl, ⟨S6, hd6, hg6⟩, hb6⟩
  have HS6 := Lib.hid (HS5.out.next hd6 hg6 hb6)
  have HI6 := Lib.hid (inv_seg (nm := (nameS ((3 : Nat) : Int))) hn2 (follows_all HFO.out) (by rw [ensOf_len]; exact h40))
  clear hd6 hg6 hb6 HS5 hp5 HR5 HAD HI5 HCR
  go_wp2
  go_loop [10] (fun a => ∃ j : Nat, a = .int .i64 (j : Int) ∧ j ≤ es.length ∧ Hid (∀ i (h : i < es.length), i < j → es[i].1.pos ≤ last)) (fun a => es.length - (intOf a).toNat)
  case atStart => exact ⟨0, rfl, Nat.zero_le _, Lib.hid fun i _ h => by omega⟩
  case round =>
    obtain ⟨k, rfl, hk, HJ⟩ := hrel
    by_cases hgo : ∃ h : k < es.length, es[k].1.pos ≤ last
    · obtain ⟨hlt, hpl⟩ := hgo
      have hlti : (k : Int) < (es.length : Int) := by omega
      obtain ⟨-, -, b, off, hab, h7⟩ := HX0.out k hlt
      subst hab
      have z0 := below_keeps HS6.out.bel _ _ h7.1
      have HJ2 : Hid (∀ i (h : i < es.length), i < k + 1 → es[i].1.pos ≤ last) := Lib.hid fun i hi h => by
        by_cases e : i = k
        · subst e; exact hpl
        · exact HJ.out i hi (by omega)
      clear h7 HJ
      generalize (es[k]).1.pos = pk at *
      go_wp2
      go_round
      case rel => exact ⟨k + 1, by go_num, by omega, HJ2⟩
      case measure => simp [intOf]; omega
    have HUP : Hid (upto last (ensOf es) = (ensOf es).take k) := Lib.hid (upto_of (by rw [ensOf_len]; exact hk) (fun i hi hik => by
      have := HJ.out i (by rw [ensOf_len] at hi; exact hi) hik
      simpa using this) (fun hlt => by
      rw [ensOf_len] at hlt
      have : ¬ es[k].1.pos ≤ last := fun h => hgo ⟨hlt, h⟩
      simpa using this))
    have HGO := Lib.hid hgo
    clear hgo HJ
    go_upto_region 12 with (fail)
    go_cut [67] (fun x wx => x = .bool false ∧ w6 = wx)
    case first =>
      by_cases hlt : k < es.length
      · have hlti : (k : Int) < (es.length : Int) := by omega
        obtain ⟨-, -, b, off, hab, h7⟩ := HX0.out k hlt
        subst hab
        have z0 := below_keeps HS6.out.bel _ _ h7.1
        have hpl : ¬ (es[k]).1.pos ≤ last := fun h => HGO.out ⟨hlt, h⟩
        clear h7 HGO
        generalize (es[k]).1.pos = pk at *
        go_wp2
        go_meet
        exact ⟨rfl, rfl⟩
      · have hlti : ¬ (k : Int) < (es.length : Int) := by omega
        go_wp2
        go_meet
        exact ⟨rfl, rfl⟩
    case rest =>
    obtain ⟨rfl, rfl⟩ := hcut
    clear HGO
    obtain ⟨A, HA⟩ : ∃ A, Hid ((ensOf es).take k = A) := ⟨_, Lib.hid rfl⟩
    have HAE : Hid (ensOf (es.take k) = A) := Lib.hid (by rw [← HA.out]; exact List.map_take)
    obtain ⟨D2, HDE⟩ : ∃ D2, Hid (ensOf (es.drop k) = D2) := ⟨_, Lib.hid rfl⟩
    have HAD : Hid (A ++ D2 = ensOf es) := Lib.hid (by rw [← HAE.out, ← HDE.out, ← List.map_append, List.take_append_drop])
    have HFA : Hid (R.follows A ((n : Int) - 1) 0 = true) := Lib.hid (by
      have := HFO.out
      rw [← HAD.out] at this
      exact ((R.follows_append A D2 ((n : Int) - 1) 0).1 this).1)
    have HAL : Hid (A.length ≤ 40) := Lib.hid (by rw [← HAE.out, ensOf_len, List.length_take]; omega)
    have HUA : Hid (upto last A = A) := Lib.hid (by rw [← HA.out, ← HUP.out, upto_idem])
    have HC1 := Lib.hid (cut_law (j := 3) (last := last) (by omega) (by omega) hn1 hn2 HFO.out (by rw [ensOf_len]; exact h40))
    rw [HUP.out, HA.out] at HC1
    have HC2 := Lib.hid (cut_law (j := 3) (last := last) (by omega) (by omega) hn1 hn2 HFA.out HAL.out)
    rw [HUA.out] at HC2
    have HLO := Lib.hid (law_load (j := 3) hn1 hn2 HFA.out)
    have HT3 := Lib.hid (law_add (j := 3) (a := A) (b := D2) (by omega) (by omega) hn1 hn2 (by rw [HAD.out]; exact HFO.out) (by rw [HAD.out, ensOf_len]; exact h40))
    have HIA := Lib.hid (inv_seg (nm := (nameS ((3 : Nat) : Int))) hn2 (follows_all HFA.out) HAL.out)
    have HRT : Hid (∀ x ∈ es.take k, x.1.b.events.length ≤ 1000000) := Lib.hid fun x hx => right_events (follows_all HFO.out x.1 (List.mem_map.2 ⟨x, List.mem_of_mem_take hx, rfl⟩))
    generalize segB n A = sb at *
    have hp6 := HS6.out.pa
    go_wp2_with fail
    refine (Z.cut 3 last 0 _ HS6.out.at_ HI6.out (by decide) (named_one (by omega) (by omega) _) (by omega) (by omega) HLA.out HC1.out).mono ?_
    rintro x w7 ⟨rfl, ⟨S7, hd7, hg7⟩, hb7⟩
    have HS7 := Lib.hid (HS6.out.next hd7 hg7 hb7)
    clear hd7 hg7 hb7 HS6 hp6 HC1 HI6
    have hp7 := HS7.out.pa
    go_wp2_with fail
    refine (C.crash [] _ HS7.out.at_ HIA.out (by decide) (fun w' _ => ⟨none, 0, rfl, fun i hi => by simp at hi⟩) (by simp)).mono ?_
    rintro x w8 ⟨rfl, ⟨S8, hd8, hg8⟩, hb8⟩
    rw [D.crash_full (full_one _ _)] at hd8
    have HS8 := Lib.hid (HS7.out.next hd8 hg8 hb8)
    clear hd8 hg8 hb8 HS7 hp7
    have hp8 := HS8.out.pa
    go_wp2_with fail
    refine (Z.load 3 0 n A false HS8.out.at_ HIA.out (by decide) (named_one (by omega) (by omega) _) (by omega) HLO.out).mono ?_
    rintro x w9 ⟨⟨v, xs, rfl, hxs, hrd⟩, hb9⟩
    have hxk : xs.length = k := by rw [← ensOf_len, hxs, ← HA.out, List.length_take, ensOf_len]; omega
    obtain ⟨a2, cap2, hv, -⟩ := hrd w9 (D.But.refl _ _)
    rw [hxk] at hv
    subst hv
    have HXS := Lib.hid hxs
    have HXK := Lib.hid hxk
    have hal : Below w9.heap.size w9 (w9.alloc (.cells #[.int .i64 (n : Int), .slice a2 k cap2, .bool false] 38)) := (Below.refl _ _).alloc (Nat.le_refl _) _
    have hnew := heap_alloc_new w9 (.cells #[.int .i64 (n : Int), .slice a2 k cap2, .bool false] 38)
    have g1 : (w9.alloc (.cells #[.int .i64 (n : Int), .slice a2 k cap2, .bool false] 38)).cell? ⟨w9.heap.size, 1, none⟩ = some (.slice a2 k cap2) := by rw [blk9 hnew]; rfl
    have g2 : (w9.alloc (.cells #[.int .i64 (n : Int), .slice a2 k cap2, .bool false] 38)).cell? ⟨w9.heap.size, 2, none⟩ = some (.bool false) := by rw [blk9 hnew]; rfl
    have HS10 := Lib.hid ((HS8.out.below hb9).below hal)
    have HNG : Hid (¬ S8 w9.heap.size) := Lib.hid fun h => by have := (C.low (HS8.out.below hb9).at_ h).2; omega
    have HRX : Hid (∀ w2, D.But S8 (w9.alloc (.cells #[.int .i64 (n : Int), .slice a2 k cap2, .bool false] 38)) w2 → ReadsR w2 (.slice a2 k cap2) xs) := Lib.hid fun w2 hb => hrd w2 ((D.But.of_below hal).trans hb)
    clear hrd hxs hxk hb9 hal hnew HS8 hp8 HLO
    have hp10 := HS10.out.pa
    obtain ⟨u, HU⟩ : ∃ u, Hid (D.used [full (nameS ((3 : Nat) : Int)) sb] = u) := ⟨_, Lib.hid rfl⟩
    have HUS := Lib.hid (fun (w' : World) (h : OneAt C w p ga w' [full (nameS ((3 : Nat) : Int)) sb] S8) => C.used h.at_ HIA.out (by decide))
    rw [HU.out] at HUS
    go_wp2_with fail
    generalize w9.alloc (.cells #[.int .i64 (n : Int), .slice a2 k cap2, .bool false] 38) = w10 at *
    generalize w9.heap.size = gb at *
    refine (HUS.out w10 HS10.out).mono ?_
    rintro x w11 ⟨rfl, hb11⟩
    have HS11 := Lib.hid (HS10.out.below hb11)
    have q1 := below_keeps hb11 _ _ g1
    have q2 := below_keeps hb11 _ _ g2
    have HRX11 : Hid (∀ w2, D.But S8 w11 w2 → ReadsR w2 (.slice a2 k cap2) xs) := Lib.hid fun w2 hb => HRX.out w2 ((D.But.of_below hb11).trans hb)
    clear hb11 HS10 hp10 g1 g2 HRX HUS
    have hp11 := HS11.out.pa
    go_wp2_with fail
    refine (Z.cut 3 last 0 _ HS11.out.at_ HIA.out (by decide) (named_one (by omega) (by omega) _) (by omega) (by omega) HLA.out HC2.out).mono ?_
    rintro x w12 ⟨rfl, ⟨S12, hd12, hg12⟩, hb12⟩
    have HS12 := Lib.hid (HS11.out.next hd12 hg12 hb12)
    have HNG12 : Hid (¬ S12 gb) := Lib.hid (off9 hg12 (by have := World.block_lt_of_cell? _ _ q1; exact this) HNG.out)
    have y1 := cell_but q1 hb12 HNG.out
    have y2 := cell_but q2 hb12 HNG.out
    have HRD := Lib.hid (HRX11.out w12 hb12)
    clear hd12 hg12 hb12 HS11 hp11 q1 q2 HRX11 HC2 HNG
    have hkc : (k : Int) ≤ (cap : Int) := by omega
    have hkl : (k : Int) ≤ (es.length : Int) := by omega
    have hlc : (es.length : Int) ≤ (cap : Int) := by omega
    go_upto_region 20 with (fail)
    have hq : w12.cell? ⟨ga, 0, none⟩ = some (dP p) ∧ w12.cell? ⟨gb, 1, none⟩ = some (.slice a2 k cap2) ∧ w12.cell? ⟨gb, 2, none⟩ = some (.bool false) := ⟨HS12.out.pa, y1, y2⟩
    have HS13 := Lib.hid HS12.out.drew
    have HRD13 : Hid (ReadsR w12.drew (.slice a2 k cap2) xs) := Lib.hid (readsR_below HRD.out ⟨rfl, rfl, rfl, Nat.le_refl _, fun _ _ => rfl⟩)
    clear HS12 HRD y1 y2
    refine wp_region_held_drew (S := fun w' => w'.cell? ⟨ga, 0, none⟩ = some (dP p) ∧ w'.cell? ⟨gb, 1, none⟩ = some (.slice a2 k cap2) ∧ w'.cell? ⟨gb, 2, none⟩ = some (.bool false)) (by kernel_rfl) ?_ (fun hHeld => ?_)
    · exact hq
    generalize w12.drew = w13 at *
    clear hq
    refine take_wanted (i := 0) (v := ?_) rfl (by kernel_rfl) (by kernel_rfl) (by kernel_rfl) (fun _ _ _ h => h) (by rfl) ?_ (by assumption) ?_
    rotate_left
    · intro w hSw
      (try dsimp only at hSw)
      go_simp
      (try with_reducible rfl)
    simp only [Act.put, List.setIfInBounds_toArray, List.set_cons_zero, List.set_cons_succ]
    refine take_wanted (i := 1) (v := ?_) rfl (by kernel_rfl) (by kernel_rfl) (by kernel_rfl) (fun _ _ _ h => h) (by rfl) ?_ (by assumption) ?_
    rotate_left
    · intro w hSw
      (try dsimp only at hSw)
      go_simp
      (try with_reducible rfl)
    simp only [Act.put, List.setIfInBounds_toArray, List.set_cons_zero, List.set_cons_succ]
    refine take_wanted (i := 2) (v := ?_) rfl (by kernel_rfl) (by kernel_rfl) (by kernel_rfl) (fun _ _ _ h => h) (by rfl) ?_ (by assumption) ?_
    rotate_left
    · intro w hSw
      (try dsimp only at hSw)
      go_simp
      (try with_reducible rfl)
    simp only [Act.put, List.setIfInBounds_toArray, List.set_cons_zero, List.set_cons_succ]
    refine take_wanted (i := 3) (v := ?_) rfl (by kernel_rfl) (by kernel_rfl) (by kernel_rfl) (fun _ _ _ h => h) (by rfl) ?_ (by assumption) ?_
    rotate_left
    · intro w hSw
      (try dsimp only at hSw)
      go_simp
      (try with_reducible rfl)
    simp only [Act.put, List.setIfInBounds_toArray, List.set_cons_zero, List.set_cons_succ]
    refine take_wanted (i := 4) (v := ?_) rfl (by kernel_rfl) (by kernel_rfl) (by kernel_rfl) (fun _ _ _ h => h) (by rfl) ?_ (by assumption) ?_
    rotate_left
    · intro w hSw
      (try dsimp only at hSw)
      go_simp
      (try with_reducible rfl)
    simp only [Act.put, List.setIfInBounds_toArray, List.set_cons_zero, List.set_cons_succ]
    refine take_wanted (i := 5) (v := ?_) rfl (by kernel_rfl) (by kernel_rfl) (by kernel_rfl) (fun _ _ _ h => h) (by rfl) ?_ (by assumption) ?_
    rotate_left
    · intro w hSw
      (try dsimp only at hSw)
      go_simp
      (try with_reducible rfl)
    simp only [Act.put, List.setIfInBounds_toArray, List.set_cons_zero, List.set_cons_succ]
    refine take_wanted (i := 6) (v := ?_) rfl (by kernel_rfl) (by kernel_rfl) (by kernel_rfl) (fun _ _ _ h => h) (by rfl) ?_ (by assumption) ?_
    rotate_left
    · intro w hSw
      (try dsimp only at hSw)
      go_simp
      (try with_reducible rfl)
    simp only [Act.put, List.setIfInBounds_toArray, List.set_cons_zero, List.set_cons_succ]
    refine take_wanted (i := 7) (v := ?_) rfl (by kernel_rfl) (by kernel_rfl) (by kernel_rfl) (fun _ _ _ h => h) (by rfl) ?_ (by assumption) ?_
    rotate_left
    · intro w hSw
      (try dsimp only at hSw)
      go_simp
      (try with_reducible rfl)
    simp only [Act.put, List.setIfInBounds_toArray, List.set_cons_zero, List.set_cons_succ]
    refine take_wanted (i := 8) (v := ?_) rfl (by kernel_rfl) (by kernel_rfl) (by kernel_rfl) (fun _ _ _ h => h) (by rfl) ?_ (by assumption) ?_
    rotate_left
    · intro w hSw
      (try dsimp only at hSw)
      go_simp
      (try with_reducible rfl)
    simp only [Act.put, List.setIfInBounds_toArray, List.set_cons_zero, List.set_cons_succ]
    refine take_wanted (i := 9) (v := ?_) rfl (by kernel_rfl) (by kernel_rfl) (by kernel_rfl) (fun _ _ _ h => h) (by rfl) ?_ (by assumption) ?_
    rotate_left
    · intro w hSw
      (try dsimp only at hSw)
      go_simp
      (try with_reducible rfl)
    simp only [Act.put, List.setIfInBounds_toArray, List.set_cons_zero, List.set_cons_succ]
    refine take_wanted (i := 10) (v := ?_) rfl (by kernel_rfl) (by kernel_rfl) (by kernel_rfl) (fun _ _ _ h => h) (by rfl) ?_ (by assumption) ?_
    rotate_left
    · intro w hSw
      (try dsimp only at hSw)
      go_simp
      (try with_reducible rfl)
    simp only [Act.put, List.setIfInBounds_toArray, List.set_cons_zero, List.set_cons_succ]
    refine take_wanted (i := 11) (v := ?_) rfl (by kernel_rfl) (by kernel_rfl) (by kernel_rfl) (fun _ _ _ h => h) (by rfl) ?_ (by assumption) ?_
    rotate_left
    · intro w hSw
      (try dsimp only at hSw)
      go_simp
      (try with_reducible rfl)
    simp only [Act.put, List.setIfInBounds_toArray, List.set_cons_zero, List.set_cons_succ]
    refine take_wanted (i := 12) (v := ?_) rfl (by kernel_rfl) (by kernel_rfl) (by kernel_rfl) (fun _ _ _ h => h) (by rfl) ?_ (by assumption) ?_
    rotate_left
    · intro w hSw
      (try dsimp only at hSw)
      go_simp
      (try with_reducible rfl)
    simp only [Act.put, List.setIfInBounds_toArray, List.set_cons_zero, List.set_cons_succ]
    have HSR := Lib.hid (SameRow_true xs (es.take k) (.slice a2 k cap2) (.slice aa k cap) w13 HRD13.out (readsR_take (HRA.out _ HS13.out.bel) hk) (by rw [HXS.out, HAE.out]) (by rw [HXK.out]; omega) HRT.out)
    refine take_only (i := 13) (by kernel_rfl) rfl (by rfl) (fun K hK => ?_)
    go_simp
    go_at_call 28
    refine (HSR.out).mono ?_
    rintro x w14 ⟨rfl, hb14⟩
    refine hK.out _ _ ?_ (fun hHeld => ?_)
    · exact Q3_below hHeld hb14
    clear hK K
    have HS14 := Lib.hid (HS13.out.below hb14)
    clear hb14 HS13 HSR HRD13
    refine take_wanted (i := 14) (v := ?_) rfl (by kernel_rfl) (by kernel_rfl) (by kernel_rfl) (fun _ _ _ h => h) (by rfl) ?_ (by assumption) ?_
    rotate_left
    · intro w hSw
      (try dsimp only at hSw)
      go_simp
      (try with_reducible rfl)
    simp only [Act.put, List.setIfInBounds_toArray, List.set_cons_zero, List.set_cons_succ]
    refine take_wanted (i := 15) (v := ?_) rfl (by kernel_rfl) (by kernel_rfl) (by kernel_rfl) (fun _ _ _ h => h) (by rfl) ?_ (by assumption) ?_
    rotate_left
    · intro w hSw
      (try dsimp only at hSw)
      go_simp
      (try with_reducible rfl)
    simp only [Act.put, List.setIfInBounds_toArray, List.set_cons_zero, List.set_cons_succ]
    refine take_wanted (i := 16) (v := ?_) rfl (by kernel_rfl) (by kernel_rfl) (by kernel_rfl) (fun _ _ _ h => h) (by rfl) ?_ (by assumption) ?_
    rotate_left
    · intro w hSw
      (try dsimp only at hSw)
      go_simp
      (try with_reducible rfl)
    simp only [Act.put, List.setIfInBounds_toArray, List.set_cons_zero, List.set_cons_succ]
    refine take_wanted (i := 17) (v := ?_) rfl (by kernel_rfl) (by kernel_rfl) (by kernel_rfl) (fun _ _ _ h => h) (by rfl) ?_ (by assumption) ?_
    rotate_left
    · intro w hSw
      (try dsimp only at hSw)
      go_simp
      (try with_reducible rfl)
    simp only [Act.put, List.setIfInBounds_toArray, List.set_cons_zero, List.set_cons_succ]
    refine take_wanted (i := 18) (v := ?_) rfl (by kernel_rfl) (by kernel_rfl) (by kernel_rfl) (fun _ _ _ h => h) (by rfl) ?_ (by assumption) ?_
    rotate_left
    · intro w hSw
      (try dsimp only at hSw)
      go_simp
      (try with_reducible rfl)
    simp only [Act.put, List.setIfInBounds_toArray, List.set_cons_zero, List.set_cons_succ]
    refine take_wanted (i := 19) (v := ?_) rfl (by kernel_rfl) (by kernel_rfl) (by kernel_rfl) (fun _ _ _ h => h) (by rfl) ?_ (by assumption) ?_
    rotate_left
    · intro w hSw
      (try dsimp only at hSw)
      go_simp
      (try with_reducible rfl)
    simp only [Act.put, List.setIfInBounds_toArray, List.set_cons_zero, List.set_cons_succ]
    refine take_wanted (i := 20) (v := ?_) rfl (by kernel_rfl) (by kernel_rfl) (by kernel_rfl) (fun _ _ _ h => h) (by rfl) ?_ (by assumption) ?_
    rotate_left
    · intro w hSw
      (try dsimp only at hSw)
      go_simp
      (try with_reducible rfl)
    simp only [Act.put, List.setIfInBounds_toArray, List.set_cons_zero, List.set_cons_succ]
    refine take_wanted (i := 21) (v := ?_) rfl (by kernel_rfl) (by kernel_rfl) (by kernel_rfl) (fun _ _ _ h => h) (by rfl) ?_ (by assumption) ?_
    rotate_left
    · intro w hSw
      (try dsimp only at hSw)
      go_simp
      (try with_reducible rfl)
    simp only [Act.put, List.setIfInBounds_toArray, List.set_cons_zero, List.set_cons_succ]
    refine take_wanted (i := 23) (v := ?_) rfl (by kernel_rfl) (by kernel_rfl) (by kernel_rfl) (fun _ _ _ h => h) (by rfl) ?_ (by assumption) ?_
    rotate_left
    · intro w hSw
      (try dsimp only at hSw)
      go_simp
      (try with_reducible rfl)
    simp only [Act.put, List.setIfInBounds_toArray, List.set_cons_zero, List.set_cons_succ]
    have HUS := Lib.hid (C.used HS14.out.at_ HIA.out (by decide))
    rw [HU.out] at HUS
    refine take_only (i := 22) (by kernel_rfl) rfl (by rfl) (fun K hK => ?_)
    go_simp
    go_at_call 30
    refine (HUS.out).mono ?_
    rintro x w15 ⟨rfl, hb15⟩
    refine hK.out _ _ ?_ (fun hHeld => ?_)
    · exact Q3_below hHeld hb15
    clear hK K
    have HS15 := Lib.hid (HS14.out.below hb15)
    clear hb15 HS14 HUS
    refine take_wanted (i := 24) (v := ?_) rfl (by kernel_rfl) (by kernel_rfl) (by kernel_rfl) (fun _ _ _ h => h) (by rfl) ?_ (by assumption) ?_
    rotate_left
    · intro w hSw
      (try dsimp only at hSw)
      go_simp
      (try with_reducible rfl)
    simp only [Act.put, List.setIfInBounds_toArray, List.set_cons_zero, List.set_cons_succ]
    refine take_wanted (i := 25) (v := ?_) rfl (by kernel_rfl) (by kernel_rfl) (by kernel_rfl) (fun _ _ _ h => h) (by rfl) ?_ (by assumption) ?_
    rotate_left
    · intro w hSw
      (try dsimp only at hSw)
      go_simp
      (try with_reducible rfl)
    simp only [Act.put, List.setIfInBounds_toArray, List.set_cons_zero, List.set_cons_succ]
    refine take_wanted (i := 26) (v := ?_) rfl (by kernel_rfl) (by kernel_rfl) (by kernel_rfl) (fun _ _ _ h => h) (by rfl) ?_ (by assumption) ?_
    rotate_left
    · intro w hSw
      (try dsimp only at hSw)
      go_simp
      (try with_reducible rfl)
    simp only [Act.put, List.setIfInBounds_toArray, List.set_cons_zero, List.set_cons_succ]
    refine take_wanted (i := 27) (v := ?_) rfl (by kernel_rfl) (by kernel_rfl) (by kernel_rfl) (fun _ _ _ h => h) (by rfl) ?_ (by assumption) ?_
    rotate_left
    · intro w hSw
      (try dsimp only at hSw)
      go_simp
      (try with_reducible rfl)
    simp only [Act.put, List.setIfInBounds_toArray, List.set_cons_zero, List.set_cons_succ]
    refine take_wanted (i := 28) (v := ?_) rfl (by kernel_rfl) (by kernel_rfl) (by kernel_rfl) (fun _ _ _ h => h) (by rfl) ?_ (by assumption) ?_
    rotate_left
    · intro w hSw
      (try dsimp only at hSw)
      go_simp
      (try with_reducible rfl)
    simp only [Act.put, List.setIfInBounds_toArray, List.set_cons_zero, List.set_cons_succ]
    refine take_only (i := 29) (by kernel_rfl) rfl (by rfl) (fun K hK => ?_)
    go_simp
    go_at_call 31
    refine (C.list HS15.out.at_ HIA.out (by decide)).mono ?_
    rintro x w16 ⟨⟨vn, rfl, ⟨na, nc, rfl, -⟩⟩, hb16⟩
    refine hK.out _ _ ?_ (fun hHeld => ?_)
    · exact Q3_below hHeld hb16
    clear hK K
    have HS16 := Lib.hid (HS15.out.below hb16)
    clear hb16 HS15
    rw [show (strCells (([full (nameS ((3 : Nat) : Int)) sb] : List D.F).map D.F.name)).length = 1 by rw [strCells_len]; rfl]
    refine take_wanted (i := 30) (v := ?_) rfl (by kernel_rfl) (by kernel_rfl) (by kernel_rfl) (fun _ _ _ h => h) (by rfl) ?_ (by assumption) ?_
    rotate_left
    · intro w hSw
      (try dsimp only at hSw)
      go_simp
      (try with_reducible rfl)
    simp only [Act.put, List.setIfInBounds_toArray, List.set_cons_zero, List.set_cons_succ]
    refine take_wanted (i := 31) (v := ?_) rfl (by kernel_rfl) (by kernel_rfl) (by kernel_rfl) (fun _ _ _ h => h) (by rfl) ?_ (by assumption) ?_
    rotate_left
    · intro w hSw
      (try dsimp only at hSw)
      go_simp
      (try with_reducible rfl)
    simp only [Act.put, List.setIfInBounds_toArray, List.set_cons_zero, List.set_cons_succ]
    refine take_wanted (i := 32) (v := ?_) rfl (by kernel_rfl) (by kernel_rfl) (by kernel_rfl) (fun _ _ _ h => h) (by rfl) ?_ (by assumption) ?_
    rotate_left
    · intro w hSw
      (try dsimp only at hSw)
      go_simp
      (try with_reducible rfl)
    simp only [Act.put, List.setIfInBounds_toArray, List.set_cons_zero, List.set_cons_succ]
    refine take_wanted (i := 33) (v := ?_) rfl (by kernel_rfl) (by kernel_rfl) (by kernel_rfl) (fun _ _ _ h => h) (by rfl) ?_ (by assumption) ?_
    rotate_left
    · intro w hSw
      (try dsimp only at hSw)
      go_simp
      (try with_reducible rfl)
    simp only [Act.put, List.setIfInBounds_toArray, List.set_cons_zero, List.set_cons_succ]
    refine take_wanted (i := 34) (v := ?_) rfl (by kernel_rfl) (by kernel_rfl) (by kernel_rfl) (fun _ _ _ h => h) (by rfl) ?_ (by assumption) ?_
    rotate_left
    · intro w hSw
      (try dsimp only at hSw)
      go_simp
      (try with_reducible rfl)
    simp only [Act.put, List.setIfInBounds_toArray, List.set_cons_zero, List.set_cons_succ]
    refine take_wanted (i := 35) (v := ?_) rfl (by kernel_rfl) (by kernel_rfl) (by kernel_rfl) (fun _ _ _ h => h) (by rfl) ?_ (by assumption) ?_
    rotate_left
    · intro w hSw
      (try dsimp only at hSw)
      go_simp
      (try with_reducible rfl)
    simp only [Act.put, List.setIfInBounds_toArray, List.set_cons_zero, List.set_cons_succ]
    refine take_wanted (i := 36) (v := ?_) rfl (by kernel_rfl) (by kernel_rfl) (by kernel_rfl) (fun _ _ _ h => h) (by rfl) ?_ (by assumption) ?_
    rotate_left
    · intro w hSw
      (try dsimp only at hSw)
      go_simp
      (try with_reducible rfl)
    simp only [Act.put, List.setIfInBounds_toArray, List.set_cons_zero, List.set_cons_succ]
    refine take_wanted (i := 37) (v := ?_) rfl (by kernel_rfl) (by kernel_rfl) (by kernel_rfl) (fun _ _ _ h => h) (by rfl) ?_ (by assumption) ?_
    rotate_left
    · intro w hSw
      (try dsimp only at hSw)
      go_simp
      (try with_reducible rfl)
    simp only [Act.put, List.setIfInBounds_toArray, List.set_cons_zero, List.set_cons_succ]
    refine take_wanted (i := 38) (v := ?_) rfl (by kernel_rfl) (by kernel_rfl) (by kernel_rfl) (fun _ _ _ h => h) (by rfl) ?_ (by assumption) ?_
    rotate_left
    · intro w hSw
      (try dsimp only at hSw)
      go_simp
      (try with_reducible rfl)
    simp only [Act.put, List.setIfInBounds_toArray, List.set_cons_zero, List.set_cons_succ]
    have HTD : Hid (∀ w', D.But S12 w16 w' → ReadsR w' (.slice (if cap = k then aa else Option.map (fun x => x.add (k * 7)) aa) (es.length - k) (cap - k)) (es.drop k)) := Lib.hid fun w' hb => readsR_rest (HRA.out _ (but_low HS16.out.bel hb HS16.out.lo)) hk
    have HSD : Hid (∀ x ∈ es.drop k, E.Small x.1.b) := Lib.hid fun x hx => HSM.out x (List.mem_of_mem_drop hx)
    have hl2 : (es.drop k).length ≤ 100 := by rw [List.length_drop]; omega
    have HC3 := Lib.hid (Z.add 3 (es.drop k) _ 0 _ HS16.out.at_ HIA.out (by decide) (named_one (by omega) (by omega) _) (by omega) (by omega) HTD.out hl2 HSD.out (by rw [HDE.out]; exact HT3.out))
    clear HTD HSD hl2
    generalize (if cap = k then aa else Option.map (fun x => x.add (k * 7)) aa) = a3 at *
    refine take_only (i := 39) (by kernel_rfl) rfl (by rfl) (fun K hK => ?_)
    go_simp
    go_at_call 24
    refine (HC3.out).mono ?_
    rintro x w17 ⟨rfl, -, hb17⟩
    refine hK.out _ _ ?_ (fun hHeld => ?_)
    · exact Q3_but hHeld hb17 HS16.out.na HNG12.out
    clear hK K
    have HB17 : Hid (Below w.heap.size w w17) := Lib.hid (but_low HS16.out.bel hb17 HS16.out.lo)
    clear hb17 HS16 HC3
    refine take_wanted (i := 40) (v := ?_) rfl (by kernel_rfl) (by kernel_rfl) (by kernel_rfl) (fun _ _ _ h => h) (by rfl) ?_ (by assumption) ?_
    rotate_left
    · intro w hSw
      (try dsimp only at hSw)
      go_simp
      (try with_reducible rfl)
    simp only [Act.put, List.setIfInBounds_toArray, List.set_cons_zero, List.set_cons_succ]
    refine take_wanted (i := 41) (v := ?_) rfl (by kernel_rfl) (by kernel_rfl) (by kernel_rfl) (fun _ _ _ h => h) (by rfl) ?_ (by assumption) ?_
    rotate_left
    · intro w hSw
      (try dsimp only at hSw)
      go_simp
      (try with_reducible rfl)
    simp only [Act.put, List.setIfInBounds_toArray, List.set_cons_zero, List.set_cons_succ]
    refine take_wanted (i := 42) (v := ?_) rfl (by kernel_rfl) (by kernel_rfl) (by kernel_rfl) (fun _ _ _ h => h) (by rfl) ?_ (by assumption) ?_
    rotate_left
    · intro w hSw
      (try dsimp only at hSw)
      go_simp
      (try with_reducible rfl)
    simp only [Act.put, List.setIfInBounds_toArray, List.set_cons_zero, List.set_cons_succ]
    refine wpAnyH_done (by kernel_rfl) ?_ _
    go_wp2
    go_ret
    exact ⟨rfl, HB17.out⟩
end Go.Proofs.YtpdnbpihkiijkaaGreatDoor.G
