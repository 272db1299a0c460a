/-
  Walks of the document's disk (package bucketlineref8): Append of a new file: the other two ways, and all of Append.
-/
import Derived.Test.YtamfhndcekcloaaDiskRef6
namespace Go.Proofs.Ytamfhndcekcloaa.D
open Go.RowKit
attribute [local go_sem] ext_Bd ext_Bl ext_Bt toList_B add_B size_B get_Bt
variable {bs : Nat}

/-- The disk without a row yet. -/
def M0 (bs : Nat) (w : World) (p : Nat) (room : Int) : Prop := bs ≤ p ∧ w.heap[p]? = some (.cells #[.slice none 0 0, .int .i64 room] 60 (0, 0))
theorem M0.at {w : World} {p : Nat} {room : Int} (h : M0 bs w p room) : MAt bs w p room [] := ⟨h.1, _, h.2, rfl, .inl ⟨rfl, rfl⟩⟩
theorem M0.below {w w' : World} {p : Nat} {room : Int} (h : M0 bs w p room) (hb : Below w.heap.size w w') : M0 bs w' p room := by
  refine ⟨h.1, ?_⟩
  rw [hb.block p (blk_lt h.2)]; exact h.2
theorem M0.quiet {w w' : World} {p : Nat} {room : Int} (h : M0 bs w p room) (hq : sQuiet w w') : M0 bs w' p room := by obtain ⟨n, rfl⟩ := hq; exact h
theorem M0.cell {w : World} {p : Nat} {room : Int} (h : M0 bs w p room) : w.cell? ⟨p, 0, none⟩ = some (.slice none 0 0) := by
  simp [World.cell?, h.2]
theorem M0.store {w : World} {p : Nat} {room : Int} {f : F} {g3 cap3 base : Nat} (h : M0 bs w p room) (hr : w.ownsRow base 68 3 (.slice (some ⟨g3, 0, none⟩) 1 cap3) 1 (fileCells [f])) (hbs : bs ≤ base) : MWr bs (w.setCell ⟨p, 0, none⟩ (.slice (some ⟨g3, 0, none⟩) 1 cap3)) p room [f] g3 cap3 := by
  have hne : g3 ≠ p := fun e => by
    subst e
    rcases hr.2 with ⟨h2, _⟩ | ⟨g2, cap2, cur, hv, hb, hg, _⟩
    · cases h2
    · cases hv
      have h9 := h.2
      rw [hg] at h9
      simp at h9
  refine ⟨set_blk h.2 0 _, h.1, ?_⟩
  obtain ⟨h1, h2⟩ := own_any hr hbs
  refine ⟨h1, ?_⟩
  rcases h2 with h2 | ⟨g2, cap2, cur, hv, hb, hg, hrest⟩
  · exact .inl h2
  · cases hv
    exact .inr ⟨g3, cap3, cur, rfl, hb, by rw [set_oth hne]; exact hg, hrest⟩
theorem MAt.two {w : World} {p : Nat} {room : Int} {l : List F} (h : MAt bs w p room l) : (M0 bs w p room ∧ l = []) ∨ ∃ g cap, MWr bs w p room l g cap := by
  obtain ⟨hlo, v, hp, hr⟩ := h
  have h2 := hr.2
  rcases h2 with ⟨rfl, h0⟩ | ⟨g, cap, cur, rfl, _⟩
  · exact .inl ⟨⟨hlo, hp⟩, List.eq_nil_of_length_eq_zero h0⟩
  · exact .inr ⟨g, cap, hp, hlo, hr⟩
theorem new_two (w : World) (A R : Obj) : ((w.alloc A).alloc R).heap[w.heap.size + 1]? = some R := by
  have := heap_alloc_new (w.alloc A) R
  simpa using this
section
variable (p : Nat) (room : Int) (l : List F) (n s : Tx) (w : World)
set_option maxHeartbeats 4000000 in
set_option maxRecDepth 100000 in
theorem mAppend_newB (u g cap : Nat) (hkc0 : idx n l = cap) (hm : MWr bs w p room l g cap) (hs : Sorted l) (hl : l.length < 40) (hn : n.length ≤ 1000000) (hr : nameL n = true) (hf : find n l = none) (HU : Hid (used l = u)) (hu : u ≤ 4000000000) (hsl : s.length ≤ 4000000000) (hfu : (u : Int) + (s.length : Int) ≤ room) :
    Calls Try.prog 29 #[.pointer (some ⟨p, 0, none⟩), .string (B n), .string (B s)] w fun x w' => x = .returned (.int .i64 0) ∧ MAt bs w' p room (put ⟨n, s, 0⟩ l) ∧ Kp bs p w w' := by
  obtain ⟨i0, hi, hz0, hz1, hz2⟩ := info_parts Try.infoFile
  obtain ⟨k, HK⟩ : ∃ k, Hid (idx n l = k) := ⟨_, Lib.hid rfl⟩
  have hkl : k ≤ l.length := by rw [← HK.out]; exact idx_le n l
  have HL2 : Hid (put ⟨n, s, 0⟩ l = l.take k ++ ⟨n, s, 0⟩ :: l.drop k) := Lib.hid (by
    rw [put_new (f := ⟨n, s, 0⟩) hs hf, HK.out])
  have HI : Hid (isAt n l = false) := Lib.hid (by unfold isAt; rw [hf]; rfl)
  have HM := Lib.hid hm
  have HS := Lib.hid hs
  have HN := Lib.hid hr
  have hw : IntKind.i64.wrap ((u : Int) + (s.length : Int)) = (u : Int) + (s.length : Int) := IntWalk.i64_in _ ⟨by omega, by omega⟩
  have hfd : decide (room < (u : Int) + (s.length : Int)) = false := decide_eq_false (by omega)
  have h40i : ¬ (40 : Int) ≤ (l.length : Int) := by omega
  have kc := catD (a := []) (c := s) (by simp; omega)
  clear hm hr hs hf
  go_enter Try.func29, Try.ntmps29
  go_wp2_with fail
  refine (refName_l n w hn).mono ?_
  rintro x w1 ⟨rfl, hb⟩
  rw [HN.out]
  have HB := Lib.hid hb
  have HM1 := Lib.hid (HM.out.below hb)
  clear hb
  go_wp2_with fail
  refine (mFind_l p room l n k false w1 HM1.out.at HS.out (by omega) HK HI).mono ?_
  rintro x w2 ⟨rfl, hq⟩
  have HKP := Lib.hid ((Kp.of_below (bs := bs) (p := p) HB.out).trans (Kp.quiet hq))
  have HM2 := Lib.hid (HM1.out.quiet hq)
  have HU2 : Hid (∀ w', sQuiet w2 w' → Calls Try.prog 36 #[.pointer (some ⟨p, 0, none⟩)] w' fun x w3 => x = .returned (.int .i64 (u : Int)) ∧ sQuiet w' w3) := Lib.hid fun w' h => mUsed_l p room l u w' (HM2.out.quiet h).at (by omega) (by rw [HU.out]; exact hu) HU
  clear hq HM HM1 HB
  have c0 := HM2.out.cells.1
  go_wp2
  clear c0
  have hS : w2.cell? ⟨p, 1, none⟩ = some (.int .i64 room) ∧ sQuiet w2 w2 := ⟨HM2.out.cells.2, 0, rfl⟩
  go_region_held3 (fun w' => w'.cell? ⟨p, 1, none⟩ = some (.int .i64 room) ∧ sQuiet w2 w')
    (first | assumption | exact R1_drew (by assumption) | exact R1_call (by assumption) (by assumption))
    (first | (go_at_call 36; with_reducible refine (HU2.out _ (And.right (by assumption))).mono ?_; rintro x w4 ⟨rfl, hq4⟩))
  rename_i hHeld
  have HW4 := Lib.hid (HM2.out.quiet hHeld.2)
  have HK4 := Lib.hid (HKP.out.trans (Kp.quiet hHeld.2))
  clear hHeld hS hq4 HM2 HKP HU2
  obtain ⟨cur, hg, hcs, hlc, hgp, hglo⟩ := HW4.out.blk
  clear hg hcs hgp hglo
  have HBS : Hid (bs ≤ w4.heap.size) := Lib.hid (by have := HW4.out.lo; have := blk_lt HW4.out.own; omega)
  have hck : k = cap := HK.out.symm.trans hkc0
  subst hck
  have hkc : (k : Int) ≤ (k : Int) := by omega
  have hki : (k : Int) ≤ (l.length : Int) := by omega
  have HBa := Lib.hid ((Below.refl w4.heap.size w4).alloc (Nat.le_refl _) (.cells #[] 68))
  have c0 := (HW4.out.below HBa.out).cells.1
  have htk : (l.take k).length = k := by rw [List.length_take]; omega
  have hdk : (l.drop k).length = l.length - k := List.length_drop ..
  go_wp2_with (at_builtin; first
    | (refine wpList_append_own _ rfl _ _ 58 rfl w4.heap.size 68 i0 _ 3 40 Try.underlying58 hi hz0 hz1 hz2 rfl (by decide) _ _ _ rfl (own_empty w4) ⟨g, 0, none⟩ k k (fileCells (l.take k)) rfl (by rw [fileCells_len, htk]) (MWr.news (i := 0) (HW4.out.below HBa.out) (.inr ⟨_, rfl, fileCells_take l k⟩)) (file_one _) (by unfold maxLen; omega) (by omega) (by simp) ?_; intro v1 w5 hown1 hgrow1 _; have HB5 := Lib.hid (below_grownS HBa.out (by simp) (own_empty w4) hgrow1); have c05 := (HW4.out.below HB5.out).cells.1; clear hgrow1)
    | (refine wpList_append_own _ rfl _ _ 58 rfl w4.heap.size 68 i0 _ 3 40 Try.underlying58 hi hz0 hz1 hz2 rfl (by decide) _ _ _ rfl (hown1.alloc _) ⟨w5.heap.size, 0, none⟩ 1 1 [.string (B n), .string ⟨#[]⟩, .int .i64 0] rfl rfl (World.news_of_block (cs := #[.string (B n), .string ⟨#[]⟩, .int .i64 0]) (t := 68) (fr := (0, 0)) (heap_alloc_new w5 _)) (by simp [Value.oneCell']) (by unfold maxLen; omega) (by omega) (by have := HB5.out.size; simp; omega) ?_; intro v2 w6 hown2 hgrow2 _; have HB6 := Lib.hid (below_grownS (HB5.out.alloc HB5.out.size _) (by have := HB5.out.size; simp; omega) (hown1.alloc _) hgrow2); have c06 := (HW4.out.below HB6.out).cells.1; clear hgrow2)
    | (refine wpList_append_own _ rfl _ _ 58 rfl w4.heap.size 68 i0 _ 3 40 Try.underlying58 hi hz0 hz1 hz2 rfl (by decide) _ _ _ rfl hown2 ⟨g, 0, none⟩ 0 _ [] rfl rfl (fun j u h => by simp at h) (fun u h => by cases h) (by unfold maxLen; omega) (by omega) HB6.out.size ?_; intro v3 w7 hown3 hgrow3 _; have HB7 := Lib.hid (below_grownS HB6.out HB6.out.size hown2 hgrow3); have c07 := (HW4.out.below HB7.out).cells.1; have f07 := blk_loose (HW4.out.below HB7.out).own 0; obtain ⟨g3, cap3, rfl, hg3, hown4⟩ := own_new (m := l.length + 1) hown3 (by omega) (by omega); have HO4 := Lib.hid hown4; clear hgrow3 hown3 hown4))
  have elA : [] ++ fileCells (l.take k) ++ [.string (B n), .string ⟨#[]⟩, .int .i64 0] ++ [] = fileCells (l.take k ++ ⟨n, [], 0⟩ :: l.drop k) := by
    rw [fileCells_app, List.nil_append, List.append_nil, List.drop_of_length_le (by omega)]
    rfl
  rw [elA] at HO4
  clear elA
  have hlA : (l.take k ++ (⟨n, [], 0⟩ : F) :: l.drop k).length = l.length + 1 := by rw [List.length_append, List.length_cons, htk, hdk]; omega
  have hkA : k < (l.take k ++ (⟨n, [], 0⟩ : F) :: l.drop k).length := by omega
  have hgA : (l.take k ++ (⟨n, [], 0⟩ : F) :: l.drop k)[k] = ⟨n, [], 0⟩ := by
    rw [List.getElem_append_right (by omega)]
    simp [htk]
  have HSA : Hid ((l.take k ++ (⟨n, [], 0⟩ : F) :: l.drop k).set k ⟨n, s, 0⟩ = l.take k ++ ⟨n, s, 0⟩ :: l.drop k) := Lib.hid (by
    rw [List.set_append_right _ _ (by omega), htk, Nat.sub_self, List.set_cons_zero])
  generalize hA : l.take k ++ (⟨n, [], 0⟩ : F) :: l.drop k = lA at HO4 hlA hkA hgA HSA
  clear hA
  rw [← hlA] at HO4 ⊢
  have HW8 := Lib.hid ((HW4.out.below HB7.out).store HO4.out HBS.out)
  have HK8 := Lib.hid ((HK4.out.trans (Kp.of_below HB7.out)).set_own HW4.out.lo 0 (.slice (some ⟨g3, 0, none⟩) lA.length cap3))
  generalize w7.setCell ⟨p, 0, none⟩ (.slice (some ⟨g3, 0, none⟩) lA.length cap3) = w8 at HW8 HK8 ⊢
  have HC := Lib.hid (fileCells_at hkA)
  rw [hgA] at HC
  have HSY := Lib.hid (fileCells_data hkA s)
  rw [hgA] at HSY
  have hk1 : (k : Int) < (lA.length : Int) := by omega
  have c08 := HW8.out.cells.1
  have x1 : w8.cell? ⟨g3, k * 3 + 1, none⟩ = some (.string (B [])) := (HW8.out.cell (by omega)).trans HC.out.2.1
  have f1 := HW8.out.loose (k * 3 + 1)
  clear c0 c05 c06 c07 f07 hown1 hown2 HO4 hgA
  go_region
  all_goals (try go_wp2)
  go_ret
  rw [HL2.out, ← HSA.out]
  obtain ⟨cur, hg, -, -, -, hlo⟩ := HW8.out.blk
  exact ⟨rfl, (MWr.setRow (HW8.out.quiet ⟨_, rfl⟩) (List.length_set ..) HSY.out).at, ((HK8.out.drewN _).set_row hg hlo _ _)⟩
end
section
variable (p : Nat) (room : Int) (n s : Tx) (w : World)
set_option maxHeartbeats 4000000 in
set_option maxRecDepth 100000 in
theorem mAppend_new0 (u : Nat) (hm : M0 bs w p room) (hn : n.length ≤ 1000000) (hr : nameL n = true) (HU : Hid (used [] = u)) (hu : u ≤ 4000000000) (hsl : s.length ≤ 4000000000) (hfu : (u : Int) + (s.length : Int) ≤ room) :
    Calls Try.prog 29 #[.pointer (some ⟨p, 0, none⟩), .string (B n), .string (B s)] w fun x w' => x = .returned (.int .i64 0) ∧ MAt bs w' p room (put ⟨n, s, 0⟩ []) ∧ Kp bs p w w' := by
  obtain ⟨i0, hi, hz0, hz1, hz2⟩ := info_parts Try.infoFile
  have HI : Hid (isAt n [] = false) := Lib.hid rfl
  have HM := Lib.hid hm
  have HN := Lib.hid hr
  have hw : IntKind.i64.wrap ((u : Int) + (s.length : Int)) = (u : Int) + (s.length : Int) := IntWalk.i64_in _ ⟨by omega, by omega⟩
  have hfd : decide (room < (u : Int) + (s.length : Int)) = false := decide_eq_false (by omega)
  have kc := catD (a := []) (c := s) (by simp; omega)
  clear hm hr
  go_enter Try.func29, Try.ntmps29
  go_wp2_with fail
  refine (refName_l n w hn).mono ?_
  rintro x w1 ⟨rfl, hb⟩
  rw [HN.out]
  have HB := Lib.hid hb
  have HM1 := Lib.hid (HM.out.below hb)
  clear hb
  go_wp2_with fail
  refine (mFind_l p room [] n 0 false w1 HM1.out.at List.Pairwise.nil (by simp) (Lib.hid rfl) HI).mono ?_
  rintro x w2 ⟨rfl, hq⟩
  have HKP := Lib.hid ((Kp.of_below (bs := bs) (p := p) HB.out).trans (Kp.quiet hq))
  have HM2 := Lib.hid (HM1.out.quiet hq)
  have HU2 : Hid (∀ w', sQuiet w2 w' → Calls Try.prog 36 #[.pointer (some ⟨p, 0, none⟩)] w' fun x w3 => x = .returned (.int .i64 (u : Int)) ∧ sQuiet w' w3) := Lib.hid fun w' h => mUsed_l p room [] u w' (HM2.out.quiet h).at (by simp) (by rw [HU.out]; exact hu) HU
  clear hq HM HM1 HB
  have c0 := HM2.out.cell
  go_wp2
  clear c0
  have hS : w2.cell? ⟨p, 1, none⟩ = some (.int .i64 room) ∧ sQuiet w2 w2 := ⟨HM2.out.at.room, 0, rfl⟩
  go_region_held3 (fun w' => w'.cell? ⟨p, 1, none⟩ = some (.int .i64 room) ∧ sQuiet w2 w')
    (first | assumption | exact R1_drew (by assumption) | exact R1_call (by assumption) (by assumption))
    (first | (go_at_call 36; with_reducible refine (HU2.out _ (And.right (by assumption))).mono ?_; rintro x w4 ⟨rfl, hq4⟩))
  rename_i hHeld
  have HW4 := Lib.hid (HM2.out.quiet hHeld.2)
  have HK4 := Lib.hid (HKP.out.trans (Kp.quiet hHeld.2))
  clear hHeld hS hq4 HM2 HKP HU2
  have HBa := Lib.hid ((Below.refl w4.heap.size w4).alloc (Nat.le_refl _) (.cells #[] 68))
  have c0 := (HW4.out.below HBa.out).cell
  go_wp2_with (at_builtin; first
    | (refine wpList_append_own_none rfl _ _ 58 rfl w4.heap.size 68 i0 3 Try.underlying58 hi _ _ _ rfl (own_empty w4) rfl ?_)
    | (refine wpList_append_own _ rfl _ _ 58 rfl w4.heap.size 68 i0 _ 3 40 Try.underlying58 hi hz0 hz1 hz2 rfl (by decide) _ _ _ rfl ((own_empty w4).alloc (.cells #[.string (B n), .string ⟨#[]⟩, .int .i64 0] 68)) ⟨w4.heap.size + 1, 0, none⟩ 1 1 [.string (B n), .string ⟨#[]⟩, .int .i64 0] rfl rfl (World.news_of_block (cs := #[.string (B n), .string ⟨#[]⟩, .int .i64 0]) (t := 68) (fr := (0, 0)) (new_two w4 (.cells #[] 68) (.cells #[.string (B n), .string ⟨#[]⟩, .int .i64 0] 68))) (by simp [Value.oneCell']) (by unfold maxLen; omega) (by omega) (by simp; omega) ?_; intro v2 w6 hown2 hgrow2 _; have HB6 := Lib.hid (below_grownS (HBa.out.alloc HBa.out.size (.cells #[.string (B n), .string ⟨#[]⟩, .int .i64 0] 68)) (by simp; omega) ((own_empty w4).alloc (.cells #[.string (B n), .string ⟨#[]⟩, .int .i64 0] 68)) hgrow2); have c06 := (HW4.out.below HB6.out).cell; have f06 := blk_loose (HW4.out.below HB6.out).2 0; obtain ⟨g3, cap3, rfl, hg3, hown4⟩ := own_new (m := 1) hown2 (by omega) (by omega); have HO4 := Lib.hid hown4; clear hgrow2 hown2)
    | (refine wpList_append_own_none rfl _ _ 58 rfl w4.heap.size 68 i0 3 Try.underlying58 hi _ _ _ rfl hown4 rfl ?_))
  have elA : [] ++ [.string (B n), .string ⟨#[]⟩, .int .i64 0] = fileCells [⟨n, [], 0⟩] := rfl
  rw [elA] at HO4
  clear elA
  have HW8 := Lib.hid ((HW4.out.below HB6.out).store HO4.out (by have := HW4.out.1; have := blk_lt HW4.out.2; omega))
  have HK8 := Lib.hid ((HK4.out.trans (Kp.of_below HB6.out)).set_own HW4.out.1 0 (.slice (some ⟨g3, 0, none⟩) 1 cap3))
  generalize w6.setCell ⟨p, 0, none⟩ (.slice (some ⟨g3, 0, none⟩) 1 cap3) = w8 at HW8 HK8 ⊢
  have HSY : Hid ((fileCells [⟨n, [], 0⟩]).set 1 (.string (B s)) = fileCells [⟨n, s, 0⟩]) := Lib.hid rfl
  have c08 := HW8.out.cells.1
  have x1 : w8.cell? ⟨g3, 1, none⟩ = some (.string (B [])) := (HW8.out.cell (j := 1) (by simp)).trans rfl
  have f1 := HW8.out.loose 1
  clear c0 c06 f06 HO4 hown4
  go_region
  all_goals (try go_wp2)
  go_ret
  obtain ⟨cur, hg, -, -, -, hlo⟩ := HW8.out.blk
  have h9 := MWr.setRow (k := [⟨n, s, 0⟩]) HW8.out rfl HSY.out
  exact ⟨rfl, (h9.quiet ⟨1, rfl⟩).at, (HK8.out.set_row hg hlo _ _).drewN 1⟩
end
end Go.Proofs.Ytamfhndcekcloaa.D
