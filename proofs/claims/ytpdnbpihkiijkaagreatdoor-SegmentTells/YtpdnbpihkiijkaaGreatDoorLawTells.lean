/-
  The walk of the law SegmentTells over any segment package that keeps its contracts.
-/
import Derived.Test.YtpdnbpihkiijkaaGreatDoorBun29
import Derived.Test.YtpdnbpihkiijkaaGreatDoorBun26
namespace Go.Proofs.YtpdnbpihkiijkaaGreatDoor.G
open Go.RowKit
open D (dP)
attribute [local go_sem] ext_Bd ext_Bl ext_Bt toList_B add_B size_B get_Bt

theorem fit_small {b : E.Bat} (h : E.fits b = 0) : E.Small b := by
  obtain ⟨hh, _, hr⟩ := E.fits_inv h
  have h1 := (nameL_len hh.1).2
  refine E.Small.of (by omega) fun e he => ?_
  have := E.right_bd (List.all_eq_true.1 hr e he)
  omega
theorem right_small {e : R.En} (h : R.right e = true) : E.Small e.b := fit_small (R.right_iff.1 h).2.2.2.2
theorem right_events {e : R.En} (h : R.right e = true) : e.b.events.length ≤ 1000000 := by
  have := (E.fits_inv (R.right_iff.1 h).2.2.2.2).2.1
  omega
theorem frames_ge {k : Nat} : ∀ {l : List Tx}, (∀ p ∈ l, k ≤ p.length) → l.length * (k + 8) ≤ (F.frames l).length
  | [], _ => by simp
  | p :: l, h => by
    have h1 := h p (by simp)
    have h2 := frames_ge (l := l) fun q hq => h q (by simp [hq])
    rw [F.frames_cons, List.length_append, F.frame_len, List.length_cons, Nat.add_mul]
    omega
theorem seg_many {n : Nat} {es : List R.En} {s r : Tx} (h : s = segB n es ++ r) : es.length * 9 ≤ s.length := by
  have := frames_ge (k := 1) (l := es.map pay) fun p hp => by
    obtain ⟨e, _, rfl⟩ := List.mem_map.1 hp
    simp [pay]
  rw [h, List.length_append, segB_eq, List.length_append]
  rw [List.length_map] at this
  omega
/-- Cut, of a file that need not be synced. -/
theorem cut_any {room : Nat} {nm s : Tx} {y n : Nat} {es : List R.En} {t : Bool} {last : Int} {l : List D.F} (hn : nameL nm = true) (hs : D.Sorted l) (hf : D.find nm l = some ⟨nm, s, y⟩) (hl : loadL s = some (n, es, t)) (ht : D.find temp l = none) (h40 : l.length < 40) (hr : D.used l + (segB n (upto last es)).length ≤ room) : ∃ z, cutD room nm last l = (0, D.put ⟨nm, segB n (upto last es), z⟩ l) := by
  have h5 := (load_is hl).2.2.2.2
  by_cases hc : t = false ∧ (upto last es).length = es.length
  · refine ⟨y, ?_⟩
    have h6 : segB n es = s := by
      have h6 := hc.1
      rw [h5, decide_eq_false_iff_not, Decidable.not_not] at h6
      exact h6
    have hu : upto last es = es := (List.takeWhile_prefix _).eq_of_length hc.2
    unfold cutD
    rw [load_find hf hl]
    dsimp only
    rw [if_pos hc, hu, h6, put_self hs (by exact hf)]
  · refine ⟨(segB n (upto last es)).length, ?_⟩
    unfold cutD
    rw [load_find hf hl]
    dsimp only
    rw [if_neg hc, D.del_none ht, append_new (by decide) ht h40 hr, if_pos rfl]
    dsimp only
    rw [sync_put]
    dsimp only
    have hp := D.find_put (f := full temp (segB n (upto last es))) l
    unfold D.rename
    rw [show (full temp (segB n (upto last es))).name = temp from rfl] at hp
    rw [hp]
    dsimp only
    rw [if_neg (by rw [hn]; decide)]
    have hd := D.del_put (f := full temp (segB n (upto last es))) (l := l) ht
    rw [show (full temp (segB n (upto last es))).name = temp from rfl] at hd
    rw [hd]
    rfl
abbrev nm2 : Tx := [115, 101, 103, 45, 50]
theorem name2 : nameS ((2 : Nat) : Int) = nm2 := name_small (n := 2) (by omega) (by omega)
theorem find_two (s : Tx) (y : Nat) : D.find nm2 [⟨nm2, s, y⟩] = some ⟨nm2, s, y⟩ := by rw [D.find, if_pos rfl]
theorem inv_two {room y : Nat} {s : Tx} (h : s.length ≤ room) (hy : y ≤ s.length) : D.Inv room [⟨nm2, s, y⟩] :=
  ⟨List.pairwise_singleton _ _, fun f hf => by rw [List.mem_singleton] at hf; subst hf; exact hy, by simp, by simpa [D.used] using h⟩
theorem named_two (s : Tx) (y : Nat) : Named [⟨nm2, s, y⟩] := fun f hf => by
  rw [List.mem_singleton] at hf
  subst hf
  show nameL nm2 = true
  decide +kernel
theorem tells_append {s : Tx} (h : s.length ≤ 9000) : D.append 1048576 nm2 s [] = (0, [⟨nm2, s, 0⟩]) :=
  append_new (by decide +kernel) rfl (by simp) (by simp [D.used]; omega)
theorem tells_none {s : Tx} {y : Nat} (h : loadL s = none) : loadD (nameS ((2 : Nat) : Int)) [⟨nm2, s, y⟩] = (2, 0, [], false) := by
  rw [name2]
  unfold loadD
  rw [find_two]
  dsimp only
  rw [h]
theorem tells_cutno {s : Tx} {y : Nat} {last : Int} (h : loadL s = none) : cutD 1048576 (nameS ((2 : Nat) : Int)) last [⟨nm2, s, y⟩] = (2, [⟨nm2, s, y⟩]) := by
  unfold cutD
  rw [tells_none h]
theorem tells_some {s : Tx} {y : Nat} {x : Nat × List R.En × Bool} (h : loadL s = some x) : loadD (nameS ((2 : Nat) : Int)) [⟨nm2, s, y⟩] = (0, x) := by
  rw [name2]
  exact load_find (find_two _ _) h
theorem tells_cut {s : Tx} {n : Nat} {es : List R.En} {t : Bool} (hs : s.length ≤ 9000) (h : loadL s = some (n, es, t)) : ∃ z, z ≤ (segB n es).length ∧ cutD 1048576 (nameS ((2 : Nat) : Int)) 549755813888 [⟨nm2, s, 0⟩] = (0, [⟨nm2, segB n es, z⟩]) := by
  obtain ⟨h1, h2, hfl, ⟨r, hr⟩, _⟩ := load_is h
  have hu : upto 549755813888 es = es := upto_all fun e he => by
    have h3 := (R.right_iff.1 (R.follows_right hfl e he)).2.1
    have hlg : R.large = 274877906944 := rfl
    omega
  have hl : (segB n es).length ≤ 9000 := by
    have := congrArg List.length hr
    rw [List.length_append] at this
    omega
  obtain ⟨z, hz⟩ := cut_any (room := 1048576) (last := 549755813888) (y := 0) (l := [⟨nm2, s, 0⟩]) (by decide +kernel) (List.pairwise_singleton _ _) (find_two s 0) h (by rw [D.find, if_neg (show ¬ nm2 = temp by decide)]; rfl) (by simp) (by rw [hu]; simp [D.used]; omega)
  rw [hu] at hz
  have hp : D.put ⟨nm2, segB n es, z⟩ [⟨nm2, s, 0⟩] = [⟨nm2, segB n es, z⟩] := by
    unfold D.put
    rw [if_neg (by show ¬ D.lt nm2 nm2 = true; rw [D.lt_irrefl]; decide), if_pos rfl]
  rw [hp] at hz
  rw [name2]
  refine ⟨z, ?_, hz⟩
  have hi := cutD_inv (nm := nm2) (last := 549755813888) (inv_two (room := 1048576) (y := 0) (s := s) (by omega) (by omega))
  rw [hz] at hi
  exact hi.syn _ (List.mem_singleton.2 rfl)

set_option maxHeartbeats 8000000 in
set_option maxRecDepth 100000 in
theorem tells_walk {C : D.DC} (Z : SC C) (s : Tx) (w : World) (hsm : s.length ≤ 9223372036854775807) :
    Calls Tryz.prog 8 #[.string (B s)] w fun x w' => x = .returned (.bool true) ∧ Below w.heap.size w w' := by
  go_enter Tryz.func8, Tryz.ntmps8
  go_wp2_with fail
  refine (shown9_l Z w).mono ?_
  rintro x w1 ⟨rfl, hb1⟩
  have HB1 := Lib.hid hb1
  clear hb1
  go_wp2_with fail
  refine (begun9_l C (bs := w.heap.size) 1048576 w1 HB1.out.size (by omega) (by omega)).mono ?_
  rintro x w2 ⟨⟨p, m, S, rfl, hd, -, -, -⟩, hb2⟩
  have HB2 := Lib.hid (HB1.out.trans (hb2.mono HB1.out.size))
  have HD2 := Lib.hid hd
  have HA := Lib.hid ((Below.refl w2.heap.size w2).alloc (Nat.le_refl _) (.cells #[dP p, .pointer (some ⟨m, 0, none⟩)] 28))
  have HXA := Lib.hid (heap_alloc_new w2 (.cells #[dP p, .pointer (some ⟨m, 0, none⟩)] 28))
  have HBA := Lib.hid (HB2.out.trans (HA.out.mono HB2.out.size))
  clear hd hb2 HB1
  by_cases h9 : 9000 < s.length
  · have h9i : (9000 : Int) < (s.length : Int) := by omega
    go_wp2
    go_ret
    exact ⟨rfl, HBA.out⟩
  have h9i : ¬ (9000 : Int) < (s.length : Int) := by omega
  have hs9 : s.length ≤ 9000 := by omega
  have hp0 : (w2.alloc (.cells #[dP p, .pointer (some ⟨m, 0, none⟩)] 28)).cell? ⟨w2.heap.size, 0, none⟩ = some (dP p) := by rw [blk9 HXA.out]; rfl
  have HDA := Lib.hid (C.below HD2.out HA.out)
  have HNA : Hid (¬ S w2.heap.size) := Lib.hid fun h => by have := (C.low HD2.out h).2; omega
  have HZA : Hid (w2.heap.size < (w2.alloc (.cells #[dP p, .pointer (some ⟨m, 0, none⟩)] 28)).heap.size) := Lib.hid (by simp)
  have HAP := Lib.hid (tells_append hs9)
  go_wp2_with fail
  clear HA HXA HB2 HD2
  generalize w2.alloc (.cells #[dP p, .pointer (some ⟨m, 0, none⟩)] 28) = wA at *
  generalize w2.heap.size = ga at *
  refine (C.append nm2 s 0 _ HDA.out (D.inv_nil _) (by omega) (by simp) (by omega) HAP.out).mono ?_
  rintro x w3 ⟨rfl, ⟨S3, hd3, hg3⟩, hb3⟩
  have HD3 := Lib.hid hd3
  have hp3 := cell_but hp0 hb3 HNA.out
  have HN3 : Hid (¬ S3 ga) := Lib.hid fun h => by
    rcases hg3 ga h with h | h
    · exact HNA.out h
    · have := HZA.out; omega
  have HB3 : Hid (Below w.heap.size w w3) := Lib.hid (but_low HBA.out hb3 fun k hk => (C.low HDA.out hk).1)
  have HI1 := Lib.hid (inv_two (room := 1048576) (y := 0) (s := s) (by omega) (by omega))
  clear hd3 hg3 hb3 hp0 HNA HBA HDA HZA HAP
  cases hl : loadL s with
  | none =>
    have HL := Lib.hid hl
    clear hl
    go_wp2_with fail
    refine (Z.load 2 2 0 [] false HD3.out HI1.out (by omega) (named_two _ _) (by omega) (tells_none HL.out)).mono ?_
    rintro x w4 ⟨⟨v, xs, rfl, hxs, hrd⟩, hb4⟩
    have hxl : xs.length = 0 := by rw [← ensOf_len, hxs]; rfl
    obtain ⟨a, cap, hv, -⟩ := hrd w4 (D.But.refl _ _)
    rw [hxl] at hv
    subst hv
    have hp4 := below_keeps hb4 _ _ hp3
    have HD4 := Lib.hid (C.below HD3.out hb4)
    have HB4 := Lib.hid (HB3.out.trans (hb4.mono HB3.out.size))
    clear hrd hxs hxl hb4 HD3 HB3 hp3 HN3
    have hal : Below w4.heap.size w4 (w4.alloc (.cells #[.int .i64 0, .slice a 0 cap, .bool false] 38)) := (Below.refl _ _).alloc (Nat.le_refl _) _
    have hp5 := below_keeps hal _ _ hp4
    have HD5 := Lib.hid (C.below HD4.out hal)
    have HB5 := Lib.hid (HB4.out.trans (hal.mono HB4.out.size))
    have hnew := heap_alloc_new w4 (.cells #[.int .i64 0, .slice a 0 cap, .bool false] 38)
    have c0 : (w4.alloc (.cells #[.int .i64 0, .slice a 0 cap, .bool false] 38)).cell? ⟨w4.heap.size, 0, none⟩ = some (.int .i64 0) := by rw [blk9 hnew]; rfl
    have c1 : (w4.alloc (.cells #[.int .i64 0, .slice a 0 cap, .bool false] 38)).cell? ⟨w4.heap.size, 1, none⟩ = some (.slice a 0 cap) := by rw [blk9 hnew]; rfl
    clear hal hnew hp4 HB4 HD4
    go_wp2_with fail
    refine (Z.cut 2 5 2 _ HD5.out HI1.out (by omega) (named_two _ _) (by omega) (by omega) ⟨by omega, by omega⟩ (tells_cutno HL.out)).mono ?_
    rintro x w6 ⟨rfl, -, hb6⟩
    have HB6 : Hid (Below w.heap.size w w6) := Lib.hid (but_low HB5.out hb6 fun k hk => (C.low HD5.out hk).1)
    clear hb6
    go_wp2
    go_ret
    exact ⟨rfl, HB6.out⟩
  | some q =>
    obtain ⟨n, es, t⟩ := q
    have HL := Lib.hid hl
    have HIS := Lib.hid (load_is hl)
    clear hl
    have hn1 : (1 : Int) ≤ (n : Int) := by have := HIS.out.1; omega
    have hn2 : (n : Int) ≤ 274877906944 := by have := HIS.out.2.1; unfold far at this; omega
    go_wp2_with fail
    refine (Z.load 2 0 n es t HD3.out HI1.out (by omega) (named_two _ _) (by omega) (tells_some HL.out)).mono ?_
    rintro x w4 ⟨⟨v, xs, rfl, hxs, hrd⟩, hb4⟩
    obtain ⟨k, hk⟩ : ∃ k, xs.length = k := ⟨_, rfl⟩
    obtain ⟨a, cap, hv, -⟩ := hrd w4 (D.But.refl _ _)
    rw [hk] at hv
    subst hv
    have HXS := Lib.hid hxs
    have HRD := Lib.hid hrd
    have HK := Lib.hid hk
    have hk1 : k ≤ 1000 := by
      obtain ⟨r, hr⟩ := HIS.out.2.2.2.1
      have h1 := seg_many hr
      have h2 : es.length = k := by rw [← hxs, ensOf_len, hk]
      omega
    have HRT : Hid (∀ x ∈ xs, R.right x.1 = true) := Lib.hid fun x hx => R.follows_right HIS.out.2.2.1 x.1 (by rw [← hxs]; exact List.mem_map.2 ⟨x, hx, rfl⟩)
    have hp4 := below_keeps hb4 _ _ hp3
    have HD4 := Lib.hid (C.below HD3.out hb4)
    have HB4 := Lib.hid (HB3.out.trans (hb4.mono HB3.out.size))
    clear hrd hxs hk hb4 HD3 HB3 hp3
    have hal : Below w4.heap.size w4 (w4.alloc (.cells #[.int .i64 (n : Int), .slice a k cap, .bool t] 38)) := (Below.refl _ _).alloc (Nat.le_refl _) _
    have hp5 := below_keeps hal _ _ hp4
    have HD5 := Lib.hid (C.below HD4.out hal)
    have HB5 := Lib.hid (HB4.out.trans (hal.mono HB4.out.size))
    have hnew := heap_alloc_new w4 (.cells #[.int .i64 (n : Int), .slice a k cap, .bool t] 38)
    have c0 : (w4.alloc (.cells #[.int .i64 (n : Int), .slice a k cap, .bool t] 38)).cell? ⟨w4.heap.size, 0, none⟩ = some (.int .i64 (n : Int)) := by rw [blk9 hnew]; rfl
    have c1 : (w4.alloc (.cells #[.int .i64 (n : Int), .slice a k cap, .bool t] 38)).cell? ⟨w4.heap.size, 1, none⟩ = some (.slice a k cap) := by rw [blk9 hnew]; rfl
    have HRD5 : Hid (∀ w2, D.But S3 (w4.alloc (.cells #[.int .i64 (n : Int), .slice a k cap, .bool t] 38)) w2 → ReadsR w2 (.slice a k cap) xs) := Lib.hid fun w2 hb => HRD.out w2 ((D.But.of_below hal).trans hb)
    have HNG : Hid (¬ S3 w4.heap.size) := Lib.hid fun h => by have := (C.low HD4.out h).2; omega
    have HZG : Hid (w4.heap.size < (w4.alloc (.cells #[.int .i64 (n : Int), .slice a k cap, .bool t] 38)).heap.size) := Lib.hid (by simp)
    have HFO := Lib.hid (Follows_at xs (.slice a k cap) ((n : Int) - 1) 0 true (w4.alloc (.cells #[.int .i64 (n : Int), .slice a k cap, .bool t] 38)) (HRD5.out _ (D.But.refl _ _)) (by rw [HK.out]; exact hk1) (fun x hx => right_small (HRT.out x hx)) ⟨by omega, by omega⟩ (Lib.hid (by rw [HXS.out]; exact HIS.out.2.2.1)))
    clear hal hnew hp4 HB4 HD4 HRD
    have hnlt : ¬ (n : Int) < 1 := by omega
    go_wp2_with fail
    generalize w4.alloc (.cells #[.int .i64 (n : Int), .slice a k cap, .bool t] 38) = w5 at *
    generalize w4.heap.size = gb at *
    refine HFO.out.mono ?_
    rintro x w6 ⟨rfl, hb6⟩
    have hp6 := below_keeps hb6 _ _ hp5
    have d0 := below_keeps hb6 _ _ c0
    have d1 := below_keeps hb6 _ _ c1
    have HD6 := Lib.hid (C.below HD5.out hb6)
    have HB6 := Lib.hid (HB5.out.trans (hb6.mono HB5.out.size))
    have HRD6 : Hid (∀ w2, D.But S3 w6 w2 → ReadsR w2 (.slice a k cap) xs) := Lib.hid fun w2 hb => HRD5.out w2 ((D.But.of_below hb6).trans hb)
    have HZG6 : Hid (gb < w6.heap.size) := Lib.hid (Nat.lt_of_lt_of_le HZG.out hb6.size)
    clear hb6 hp5 c0 c1 HD5 HB5 HRD5 HFO HZG
    obtain ⟨z, hz1, hz2⟩ := tells_cut hs9 HL.out
    have HZ1 := Lib.hid hz1
    have HZ2 := Lib.hid hz2
    clear hz1 hz2
    go_wp2_with fail
    refine (Z.cut 2 549755813888 0 _ HD6.out HI1.out (by omega) (named_two _ _) (by omega) (by omega) ⟨by omega, by omega⟩ HZ2.out).mono ?_
    rintro x w7 ⟨rfl, ⟨S7, hd7, hg7⟩, hb7⟩
    have HD7 := Lib.hid hd7
    have hp7 := cell_but hp6 hb7 HN3.out
    have e0 := cell_but d0 hb7 HNG.out
    have e1 := cell_but d1 hb7 HNG.out
    have HB7 : Hid (Below w.heap.size w w7) := Lib.hid (but_low HB6.out hb7 fun k hk => (C.low HD6.out hk).1)
    have HR7 := Lib.hid (HRD6.out w7 hb7)
    have HI7 : Hid (D.Inv 1048576 [⟨nm2, segB n es, z⟩]) := Lib.hid (inv_two (by
      obtain ⟨r, hr⟩ := HIS.out.2.2.2.1
      have := congrArg List.length hr
      rw [List.length_append] at this
      omega) HZ1.out)
    have HL7 := Lib.hid (load_seg HIS.out.1 HIS.out.2.1 HIS.out.2.2.1)
    clear hd7 hg7 hb7 hp6 d0 d1 HD6 HB6 HRD6
    go_wp2_with fail
    refine (Z.load 2 0 n es false HD7.out HI7.out (by omega) (named_two _ _) (by omega) (tells_some HL7.out)).mono ?_
    rintro x w8 ⟨⟨v, ys, rfl, hys, hrd⟩, hb8⟩
    have hyk : ys.length = k := by rw [← ensOf_len, hys, ← HXS.out, ensOf_len, HK.out]
    obtain ⟨a2, cap2, hv, -⟩ := hrd w8 (D.But.refl _ _)
    rw [hyk] at hv
    subst hv
    have HB8 := Lib.hid (HB7.out.trans (hb8.mono HB7.out.size))
    have f0 := below_keeps hb8 _ _ e0
    have f1 := below_keeps hb8 _ _ e1
    have HR8 := Lib.hid (readsR_below HR7.out hb8)
    have hal : Below w8.heap.size w8 (w8.alloc (.cells #[.int .i64 (n : Int), .slice a2 k cap2, .bool false] 38)) := (Below.refl _ _).alloc (Nat.le_refl _) _
    have HB9 := Lib.hid (HB8.out.trans (hal.mono HB8.out.size))
    have hnew := heap_alloc_new w8 (.cells #[.int .i64 (n : Int), .slice a2 k cap2, .bool false] 38)
    have g0 : (w8.alloc (.cells #[.int .i64 (n : Int), .slice a2 k cap2, .bool false] 38)).cell? ⟨w8.heap.size, 0, none⟩ = some (.int .i64 (n : Int)) := by rw [blk9 hnew]; rfl
    have g1 : (w8.alloc (.cells #[.int .i64 (n : Int), .slice a2 k cap2, .bool false] 38)).cell? ⟨w8.heap.size, 1, none⟩ = some (.slice a2 k cap2) := by rw [blk9 hnew]; rfl
    have g2 : (w8.alloc (.cells #[.int .i64 (n : Int), .slice a2 k cap2, .bool false] 38)).cell? ⟨w8.heap.size, 2, none⟩ = some (.bool false) := by rw [blk9 hnew]; rfl
    have q0 := below_keeps hal _ _ f0
    have q1 := below_keeps hal _ _ f1
    have hsame := SameRow_true ys xs (.slice a2 k cap2) (.slice a k cap) (w8.alloc (.cells #[.int .i64 (n : Int), .slice a2 k cap2, .bool false] 38)) (hrd _ (D.But.of_below hal)) (readsR_below HR8.out hal) (by rw [hys, HXS.out]) (by rw [hyk]; exact hk1) (fun x hx => right_events (HRT.out x hx))
    have HSA := Lib.hid hsame
    have HYK := Lib.hid hyk
    clear hsame hrd hys hyk hal hnew hb8 f0 f1 e0 e1 HB7 HD7 HR7 HR8 HB8
    go_wp2_with fail
    refine HSA.out.mono ?_
    rintro x w10 ⟨rfl, hb10⟩
    have HB10 := Lib.hid (HB9.out.trans (hb10.mono HB9.out.size))
    clear hb10
    go_wp2
    go_ret
    exact ⟨rfl, HB10.out⟩
end Go.Proofs.YtpdnbpihkiijkaaGreatDoor.G
