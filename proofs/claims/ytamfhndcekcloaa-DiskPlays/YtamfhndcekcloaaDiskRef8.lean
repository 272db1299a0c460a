/-
  Walks of the document's disk (package bucketlineref8): all of Append; Delete.
-/
import Derived.Test.YtamfhndcekcloaaDiskRef7
namespace Go.Proofs.Ytamfhndcekcloaa.D
open Go.RowKit
attribute [local go_sem] ext_Bd ext_Bl ext_Bt toList_B add_B size_B get_Bt
variable {bs : Nat}

theorem used_mem {f : F} : ∀ {l : List F}, f ∈ l → f.data.length ≤ used l
  | g :: l, h => by
    rcases List.mem_cons.1 h with rfl | h
    · simp only [used]; omega
    · have := used_mem h
      simp only [used]; omega
theorem mAppend_l (p room : Nat) (l : List F) (n s : Tx) (e : Nat) (l2 : List F) (w : World) (hm : MAt bs w p (room : Int) l) (hs : Sorted l) (hl : l.length ≤ 40) (hn : n.length ≤ 1000000) (hsl : s.length ≤ 4000000000) (hu : used l ≤ 4000000000) (H : Hid (append room n s l = (e, l2))) :
    Calls Try.prog 29 #[.pointer (some ⟨p, 0, none⟩), .string (B n), .string (B s)] w fun x w' => x = .returned (.int .i64 (e : Int)) ∧ MAt bs w' p (room : Int) l2 ∧ Kp bs p w w' := by
  have h := H.out
  unfold append at h
  cases hr : nameL n with
  | false =>
    rw [if_pos hr] at h
    cases h
    exact mAppend_name p room l n s w hm hn hr
  | true =>
    rw [if_neg (by rw [hr]; decide)] at h
    cases hf : find n l with
    | none =>
      by_cases h4 : 40 ≤ l.length
      · rw [if_pos ⟨hf, h4⟩] at h
        cases h
        exact mAppend_long p room l n s w hm hs (by omega) hn hr hf h4
      · rw [if_neg fun h => h4 h.2] at h
        by_cases h8 : room < used l + s.length
        · rw [if_pos h8] at h
          cases h
          exact mAppend_full p room l n s w false (used l) hm hs (by omega) hn hr (Lib.hid (by unfold isAt; rw [hf]; rfl)) (fun _ => by omega) (Lib.hid rfl) hu hsl (by omega)
        · rw [if_neg h8, hf] at h
          cases h
          rcases hm.two with ⟨h0, rfl⟩ | ⟨g, cap, hw⟩
          · exact mAppend_new0 p room n s w (used []) h0 hn hr (Lib.hid rfl) hu hsl (by omega)
          · obtain ⟨_, _, _, hlc, _, _⟩ := hw.blk
            have hi := idx_le n l
            by_cases hk : idx n l < cap
            · exact mAppend_newA p room l n s w (used l) g cap hk hw hs (by omega) hn hr hf (Lib.hid rfl) hu hsl (by omega)
            · exact mAppend_newB p room l n s w (used l) g cap (by omega) hw hs (by omega) hn hr hf (Lib.hid rfl) hu hsl (by omega)
    | some f =>
      rw [if_neg fun h => by rw [hf] at h; cases h.1] at h
      by_cases h8 : room < used l + s.length
      · rw [if_pos h8] at h
        cases h
        exact mAppend_full p room l n s w true (used l) hm hs (by omega) hn hr (Lib.hid (by unfold isAt; rw [hf]; rfl)) (fun h => by cases h) (Lib.hid rfl) hu hsl (by omega)
      · rw [if_neg h8, hf] at h
        cases h
        have := used_mem (find_some hf).1
        exact mAppend_old p room l n s w f (used l) hm hs (by omega) hn hr hf (Lib.hid rfl) hu hsl (by omega) (by omega)
/-- All that was there stays, but the disk's own block. -/
structure Kq (p : Nat) (w w' : World) : Prop where
  os : w'.os = w.os
  tape : w'.tape = w.tape
  output : w'.output = w.output
  size : w.heap.size ≤ w'.heap.size
  block : ∀ k, k < w.heap.size → k ≠ p → w'.heap[k]? = w.heap[k]?
theorem Kq.trans {p : Nat} {a b c : World} (h : Kq p a b) (k : Kq p b c) : Kq p a c :=
  ⟨k.os.trans h.os, k.tape.trans h.tape, k.output.trans h.output, Nat.le_trans h.size k.size, fun i hi hp => (k.block i (Nat.lt_of_lt_of_le hi h.size) hp).trans (h.block i hi hp)⟩
theorem Kq.of_below {p : Nat} {w w' : World} (h : Below w.heap.size w w') : Kq p w w' := ⟨h.os, h.tape, h.output, h.size, fun k hk _ => h.block k hk⟩
theorem Kq.quiet {p : Nat} {w w' : World} (h : sQuiet w w') : Kq p w w' := by obtain ⟨n, rfl⟩ := h; exact ⟨rfl, rfl, rfl, Nat.le_refl _, fun _ _ _ => rfl⟩
theorem Kq.set_own {p : Nat} {w w' : World} (h : Kq p w w') (j : Nat) (u : Value) : Kq p w (w'.setCell ⟨p, j, none⟩ u) :=
  ⟨h.os, h.tape, h.output, by simpa using h.size, fun k hk hp => by rw [set_oth hp]; exact h.block k hk hp⟩
theorem Kq.kp {p : Nat} {w w' : World} (h : Kq p w w') (hlo : bs ≤ p) : Kp bs p w w' := ⟨h.os, h.tape, h.output, h.size, fun k o hk hp => by
  have hkp : k ≠ p := hp.elim (fun h => by omega) (fun h => h.1)
  rw [h.block k (blk_lt hk) hkp]; exact hk⟩
/-- The disk's row does not lie in block h. -/
def Off (w : World) (p h : Nat) : Prop := ∀ v c, w.heap[p]? = some (.cells #[v, c] 60 (0, 0)) → v.ownBlock ≠ some h
theorem Off.same {w w' : World} {p h : Nat} (ho : Off w p h) (e : w'.heap[p]? = w.heap[p]?) : Off w' p h := fun v c hv => ho v c (by rw [← e]; exact hv)
theorem MWr.off {w : World} {p : Nat} {room : Int} {l : List F} {g cap h : Nat} (hw : MWr bs w p room l g cap) (hne : g ≠ h) : Off w p h := fun v c hv => by
  rw [hw.own] at hv
  simp at hv
  rw [← hv.1]
  intro e
  exact hne (Option.some.inj e)
theorem own_some {w : World} {base e s n m : Nat} {v : Value} {xs : List Value} (h : w.ownsRow base e s v n xs) (hn : n = m) (hv : v ≠ .slice none 0 0) : ∃ g cap, v = .slice (some ⟨g, 0, none⟩) m cap ∧ base ≤ g ∧ w.ownsRow base e s v m xs := by
  subst hn
  rcases h.2 with ⟨h0, _⟩ | ⟨g, cap, cur, hv, hb, _⟩
  · exact absurd h0 hv
  · exact ⟨g, cap, hv, hb, h⟩
theorem not_none {v v' : Value} {m : Nat} (h : v' = .slice none 0 0 ↔ v = .slice none 0 0 ∧ m = 0) (hv : v ≠ .slice none 0 0) : v' ≠ .slice none 0 0 := fun e => hv (h.1 e).1
section
variable (p : Nat) (room : Int) (l : List F) (n : Tx) (w : World)
set_option maxHeartbeats 2000000 in
set_option maxRecDepth 100000 in
theorem mDelete_none (hm : MAt bs w p room l) (hs : Sorted l) (hl : l.length ≤ 1000) (hf : find n l = none) :
    Calls Try.prog 32 #[.pointer (some ⟨p, 0, none⟩), .string (B n)] w fun x w' => x = .returned (.int .i64 6) ∧ MAt bs w' p room l ∧ Kq p w w' ∧ (∀ h, h < w.heap.size → Off w p h → Off w' p h) := by
  have HM := Lib.hid hm
  have HS := Lib.hid hs
  have HI : Hid (isAt n l = false) := Lib.hid (by unfold isAt; rw [hf]; rfl)
  clear hm hs hf
  go_enter Try.func32, Try.ntmps32
  go_wp2_with fail
  refine (mFind_l p room l n _ false w HM.out HS.out hl (Lib.hid rfl) HI).mono ?_
  rintro x w1 ⟨rfl, hq⟩
  have HQ := Lib.hid hq
  clear hq
  go_wp2
  go_ret
  obtain ⟨q, rfl⟩ := HQ.out
  exact ⟨rfl, HM.out, Kq.quiet ⟨q, rfl⟩, fun h _ ho => ho.same rfl⟩
set_option maxHeartbeats 4000000 in
set_option maxRecDepth 100000 in
theorem mDelete_A (g cap : Nat) (hkc0 : idx n l + 1 < cap) (hm : MWr bs w p room l g cap) (hs : Sorted l) (hl : l.length ≤ 40) (hf : find n l ≠ none) :
    Calls Try.prog 32 #[.pointer (some ⟨p, 0, none⟩), .string (B n)] w fun x w' => x = .returned (.int .i64 0) ∧ MAt bs w' p room (del n l) ∧ Kq p w w' ∧ (∀ h, h < w.heap.size → Off w p h → Off w' p h) := by
  obtain ⟨i0, hi, hz0, hz1, hz2⟩ := info_parts Try.infoFile
  obtain ⟨k, HK⟩ : ∃ k, Hid (idx n l = k) := ⟨_, Lib.hid rfl⟩
  have hkl : k < l.length := by
    obtain ⟨f, hf2⟩ := Option.ne_none_iff_exists'.1 hf
    obtain ⟨h, _⟩ := idx_of hs hf2
    rw [← HK.out]; exact h
  have HL2 : Hid (del n l = l.take k ++ l.drop (k + 1)) := Lib.hid (by rw [del_old hs hf, HK.out])
  have HI : Hid (isAt n l = true) := Lib.hid (by unfold isAt; cases h : find n l with | none => exact absurd h hf | some f => rfl)
  have HM := Lib.hid hm
  have HS := Lib.hid hs
  clear hm hs hf
  go_enter Try.func32, Try.ntmps32
  go_wp2_with fail
  refine (mFind_l p room l n k true w HM.out.at HS.out (by omega) HK HI).mono ?_
  rintro x w4 ⟨rfl, hq⟩
  have HW4 := Lib.hid (HM.out.quiet hq)
  have HK4 := Lib.hid (Kq.quiet (p := p) hq)
  clear hq HM
  obtain ⟨cur, hg, hcs, hlc, hgp, hglo⟩ := HW4.out.blk
  clear hg hcs hgp hglo
  have HBS : Hid (bs ≤ w4.heap.size) := Lib.hid (by have := HW4.out.lo; have := blk_lt HW4.out.own; omega)
  have hkc1 : k + 1 < cap := by rw [← HK.out]; exact hkc0
  have hkc2 : ¬ cap = k + 1 := by omega
  have hkc : (k : Int) ≤ (cap : Int) := by omega
  have hki : (k : Int) + 1 ≤ (l.length : Int) := by omega
  have HBa := Lib.hid ((Below.refl w4.heap.size w4).alloc (Nat.le_refl _) (.cells #[] 68))
  have c0 := (HW4.out.below HBa.out).cells.1
  have htk : (l.take k).length = k := by rw [List.length_take]; omega
  have hdk : (l.drop (k + 1)).length = l.length - (k + 1) := List.length_drop ..
  go_wp2_with (at_builtin; first
    | (refine wpList_append_own _ rfl _ _ 58 rfl w4.heap.size 68 i0 _ 3 40 Try.underlying58 hi hz0 hz1 hz2 rfl (by decide) _ _ _ rfl (own_empty w4) ⟨g, 0, none⟩ k cap (fileCells (l.take k)) rfl (by rw [fileCells_len, htk]) (MWr.news (i := 0) (HW4.out.below HBa.out) (.inr ⟨_, rfl, fileCells_take l k⟩)) (file_one _) (by unfold maxLen; omega) (by omega) (by simp) ?_; intro v1 w5 hown1 hgrow1 hn1; have HB5 := Lib.hid (below_grownS HBa.out (by simp) (own_empty w4) hgrow1); have c05 := (HW4.out.below HB5.out).cells.1; have HN1 := Lib.hid (not_none hn1 (fun h => by cases h)); clear hgrow1 hn1)
    | (refine wpList_append_own _ rfl _ _ 58 rfl w4.heap.size 68 i0 _ 3 40 Try.underlying58 hi hz0 hz1 hz2 rfl (by decide) _ _ _ rfl hown1 ⟨g, (k + 1) * 3, none⟩ (l.length - (k + 1)) _ (fileCells (l.drop (k + 1))) rfl (by rw [fileCells_len, hdk]) (MWr.news (i := k + 1) (HW4.out.below HB5.out) (.inl (fileCells_drop l (k + 1)))) (file_one _) (by unfold maxLen; omega) (by omega) HB5.out.size ?_; intro v3 w7 hown3 hgrow3 hn3; have HB7 := Lib.hid (below_grownS HB5.out HB5.out.size hown1 hgrow3); have c07 := (HW4.out.below HB7.out).cells.1; have f07 := blk_loose (HW4.out.below HB7.out).own 0; obtain ⟨g3, cap3, rfl, hg3, hown4⟩ := own_some (m := l.length - 1) hown3 (by omega) (not_none hn3 HN1.out); have HO4 := Lib.hid hown4; clear hgrow3 hown3 hown4 hn3))
  have elA : [] ++ fileCells (l.take k) ++ fileCells (l.drop (k + 1)) = fileCells (l.take k ++ l.drop (k + 1)) := by
    rw [fileCells_app, List.nil_append]

  rw [elA] at HO4
  clear elA
  have hlA : (l.take k ++ l.drop (k + 1)).length = l.length - 1 := by rw [List.length_append, htk, hdk]; omega
  generalize l.take k ++ l.drop (k + 1) = lA at HO4 hlA HL2
  rw [← hlA] at HO4 ⊢
  have HW8 := Lib.hid ((HW4.out.below HB7.out).store HO4.out HBS.out)
  have HK8 := Lib.hid ((HK4.out.trans (Kq.of_below HB7.out)).set_own 0 (.slice (some ⟨g3, 0, none⟩) lA.length cap3))
  go_ret
  rw [HL2.out]
  exact ⟨rfl, HW8.out.at, HK8.out, fun h hh _ => HW8.out.off (by have := HK4.out.size; omega)⟩
set_option maxHeartbeats 4000000 in
set_option maxRecDepth 100000 in
theorem mDelete_B (g cap : Nat) (hkc0 : idx n l + 1 = cap) (hm : MWr bs w p room l g cap) (hs : Sorted l) (hl : l.length ≤ 40) (hf : find n l ≠ none) :
    Calls Try.prog 32 #[.pointer (some ⟨p, 0, none⟩), .string (B n)] w fun x w' => x = .returned (.int .i64 0) ∧ MAt bs w' p room (del n l) ∧ Kq p w w' ∧ (∀ h, h < w.heap.size → Off w p h → Off w' p h) := by
  obtain ⟨i0, hi, hz0, hz1, hz2⟩ := info_parts Try.infoFile
  obtain ⟨k, HK⟩ : ∃ k, Hid (idx n l = k) := ⟨_, Lib.hid rfl⟩
  have hkl : k < l.length := by
    obtain ⟨f, hf2⟩ := Option.ne_none_iff_exists'.1 hf
    obtain ⟨h, _⟩ := idx_of hs hf2
    rw [← HK.out]; exact h
  have HL2 : Hid (del n l = l.take k ++ l.drop (k + 1)) := Lib.hid (by rw [del_old hs hf, HK.out])
  have HI : Hid (isAt n l = true) := Lib.hid (by unfold isAt; cases h : find n l with | none => exact absurd h hf | some f => rfl)
  have HM := Lib.hid hm
  have HS := Lib.hid hs
  clear hm hs hf
  go_enter Try.func32, Try.ntmps32
  go_wp2_with fail
  refine (mFind_l p room l n k true w HM.out.at HS.out (by omega) HK HI).mono ?_
  rintro x w4 ⟨rfl, hq⟩
  have HW4 := Lib.hid (HM.out.quiet hq)
  have HK4 := Lib.hid (Kq.quiet (p := p) hq)
  clear hq HM
  obtain ⟨cur, hg, hcs, hlc, hgp, hglo⟩ := HW4.out.blk
  clear hg hcs hgp hglo
  have HBS : Hid (bs ≤ w4.heap.size) := Lib.hid (by have := HW4.out.lo; have := blk_lt HW4.out.own; omega)
  have hck : k + 1 = cap := by rw [← HK.out]; exact hkc0
  subst hck
  have hkc : (k : Int) ≤ ((k + 1 : Nat) : Int) := by omega
  have hki : (k : Int) + 1 ≤ (l.length : Int) := by omega
  have HBa := Lib.hid ((Below.refl w4.heap.size w4).alloc (Nat.le_refl _) (.cells #[] 68))
  have c0 := (HW4.out.below HBa.out).cells.1
  have htk : (l.take k).length = k := by rw [List.length_take]; omega
  have hdk : (l.drop (k + 1)).length = l.length - (k + 1) := List.length_drop ..
  go_wp2_with (at_builtin; first
    | (refine wpList_append_own _ rfl _ _ 58 rfl w4.heap.size 68 i0 _ 3 40 Try.underlying58 hi hz0 hz1 hz2 rfl (by decide) _ _ _ rfl (own_empty w4) ⟨g, 0, none⟩ k (k + 1) (fileCells (l.take k)) rfl (by rw [fileCells_len, htk]) (MWr.news (i := 0) (HW4.out.below HBa.out) (.inr ⟨_, rfl, fileCells_take l k⟩)) (file_one _) (by unfold maxLen; omega) (by omega) (by simp) ?_; intro v1 w5 hown1 hgrow1 hn1; have HB5 := Lib.hid (below_grownS HBa.out (by simp) (own_empty w4) hgrow1); have c05 := (HW4.out.below HB5.out).cells.1; have HN1 := Lib.hid (not_none hn1 (fun h => by cases h)); clear hgrow1 hn1)
    | (refine wpList_append_own _ rfl _ _ 58 rfl w4.heap.size 68 i0 _ 3 40 Try.underlying58 hi hz0 hz1 hz2 rfl (by decide) _ _ _ rfl hown1 ⟨g, 0, none⟩ 0 _ [] rfl rfl (fun j u h => by simp at h) (fun u h => by cases h) (by unfold maxLen; omega) (by omega) HB5.out.size ?_; intro v3 w7 hown3 hgrow3 hn3; have HB7 := Lib.hid (below_grownS HB5.out HB5.out.size hown1 hgrow3); have c07 := (HW4.out.below HB7.out).cells.1; have f07 := blk_loose (HW4.out.below HB7.out).own 0; obtain ⟨g3, cap3, rfl, hg3, hown4⟩ := own_some (m := l.length - 1) hown3 (by omega) (not_none hn3 HN1.out); have HO4 := Lib.hid hown4; clear hgrow3 hown3 hown4 hn3))
  have elA : [] ++ fileCells (l.take k) ++ [] = fileCells (l.take k ++ l.drop (k + 1)) := by
    rw [fileCells_app, List.nil_append, List.append_nil, List.drop_of_length_le (by omega)]
    simp [fileCells]
  rw [elA] at HO4
  clear elA
  have hlA : (l.take k ++ l.drop (k + 1)).length = l.length - 1 := by rw [List.length_append, htk, hdk]; omega
  generalize l.take k ++ l.drop (k + 1) = lA at HO4 hlA HL2
  rw [← hlA] at HO4 ⊢
  have HW8 := Lib.hid ((HW4.out.below HB7.out).store HO4.out HBS.out)
  have HK8 := Lib.hid ((HK4.out.trans (Kq.of_below HB7.out)).set_own 0 (.slice (some ⟨g3, 0, none⟩) lA.length cap3))
  go_ret
  rw [HL2.out]
  exact ⟨rfl, HW8.out.at, HK8.out, fun h hh _ => HW8.out.off (by have := HK4.out.size; omega)⟩
end
theorem mDelete_l (p : Nat) (room : Int) (l : List F) (n : Tx) (e : Nat) (l2 : List F) (w : World) (hm : MAt bs w p room l) (hs : Sorted l) (hl : l.length ≤ 40) (H : Hid (delete n l = (e, l2))) :
    Calls Try.prog 32 #[.pointer (some ⟨p, 0, none⟩), .string (B n)] w fun x w' => x = .returned (.int .i64 (e : Int)) ∧ MAt bs w' p room l2 ∧ Kq p w w' ∧ (∀ h, h < w.heap.size → Off w p h → Off w' p h) := by
  have h := H.out
  unfold delete at h
  cases hf : find n l with
  | none =>
    rw [hf] at h
    cases h
    exact mDelete_none p room l n w hm hs (by omega) hf
  | some f =>
    rw [hf] at h
    cases h
    have hne : find n l ≠ none := by rw [hf]; intro h; cases h
    obtain ⟨hlt, _⟩ := idx_of hs hf
    obtain ⟨g, cap, hw⟩ := hm.wr (by omega)
    obtain ⟨_, _, _, hlc, _, _⟩ := hw.blk
    by_cases hk : idx n l + 1 < cap
    · exact mDelete_A p room l n w g cap hk hw hs hl hne
    · exact mDelete_B p room l n w g cap (by omega) hw hs hl hne
end Go.Proofs.Ytamfhndcekcloaa.D
