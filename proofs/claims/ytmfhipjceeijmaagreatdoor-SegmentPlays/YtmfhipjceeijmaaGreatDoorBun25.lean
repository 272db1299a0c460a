/-
  Own texts, joined: DiskRef6 DiskRef7 DiskRef8 DiskRef9
-/
import Derived.Test.YtmfhipjceeijmaaGreatDoorBun24
import Derived.Deep.AppendLies

/-
  Walks of the document's disk (package bucketlineref8): Append of a new file.
-/
namespace Go.Proofs.YtmfhipjceeijmaaGreatDoor.D
open Go.RowKit
attribute [local go_sem] ext_Bd ext_Bl ext_Bt toList_B add_B size_B get_Bt
variable {bs : Nat}

theorem Tryz.infoFile : (Tryz.prog.info? 114).map (fun i => (i.zero, i.size, i.bytes)) = some (some (.agg #[.string ⟨#[]⟩, .string ⟨#[]⟩, .int .i64 0]), 3, 40) := by kernel_rfl
theorem MWr.below {w w' : World} {p : Nat} {room : Int} {l : List F} {g cap : Nat} (h : MWr bs w p room l g cap) (hb : Below w.heap.size w w') : MWr bs w' p room l g cap :=
  ⟨by rw [hb.block p (blk_lt h.own)]; exact h.own, h.lo, row_keep h.row fun k c hk => by rw [hb.block k (blk_lt hk)]; exact hk⟩
theorem fileCells_take : ∀ (l : List F) (m : Nat), fileCells (l.take m) = (fileCells l).take (m * 3)
  | [], m => by simp [fileCells]
  | f :: l, 0 => by simp [fileCells]
  | f :: l, m + 1 => by
    have e : (m + 1) * 3 = m * 3 + 1 + 1 + 1 := by omega
    rw [e]
    simp only [List.take_succ_cons, fileCells, fileCells_take l m]
theorem fileCells_drop : ∀ (l : List F) (m : Nat), fileCells (l.drop m) = (fileCells l).drop (m * 3)
  | [], m => by simp [fileCells]
  | f :: l, 0 => by simp
  | f :: l, m + 1 => by
    have e : (m + 1) * 3 = m * 3 + 1 + 1 + 1 := by omega
    rw [e]
    simp only [List.drop_succ_cons, fileCells, fileCells_drop l m]
theorem file_one : ∀ (l : List F), ∀ u ∈ fileCells l, u.oneCell' = true
  | f :: l, u, h => by
    simp only [fileCells, List.mem_cons] at h
    rcases h with rfl | rfl | rfl | h
    · rfl
    · rfl
    · rfl
    · exact file_one l u h
theorem add_at (g i j : Nat) : (⟨g, i, none⟩ : Addr).add j = ⟨g, i + j, none⟩ := Go.WideShapes.add_plain ..
/-- What stands in the row from one place to another is read so. -/
theorem MWr.news {w : World} {p : Nat} {room : Int} {l k : List F} {g cap i : Nat} (h : MWr bs w p room l g cap) (e : fileCells k = (fileCells l).drop (i * 3) ∨ ∃ m, i = 0 ∧ fileCells k = (fileCells l).take m) : ∀ (j : Nat) (u : Value), (fileCells k)[j]? = some u → w.cell? ((⟨g, i * 3, none⟩ : Addr).add j) = some u := fun j u hj => by
  rw [add_at]
  rcases e with e | ⟨m, rfl, e⟩
  · rw [e, List.getElem?_drop] at hj
    have hlt := (List.getElem?_eq_some_iff.1 hj).1
    rw [fileCells_len] at hlt
    rw [h.cell hlt]
    exact hj
  · rw [e, List.getElem?_take] at hj
    split at hj
    · have hlt := (List.getElem?_eq_some_iff.1 hj).1
      rw [fileCells_len] at hlt
      rw [Nat.zero_mul, Nat.zero_add, h.cell hlt]
      exact hj
    · cases hj
theorem below_grownS {w0 w w1 : World} {base : Nat} {e s : Nat} {v : Value} {n : Nat} {xs : List Value} (hb : Below base w0 w) (hle : base ≤ w.heap.size) (hown : w.ownsRow base e s v n xs) (hg : w.grownBy w1 v.ownBlock) : Below base w0 w1 := by
  refine ⟨hg.os.trans hb.os, hg.tape.trans hb.tape, hg.output.trans hb.output, Nat.le_trans hb.size hg.size, fun k hk => ?_⟩
  have hne : some k ≠ v.ownBlock := by
    rcases hown.2 with ⟨rfl, _⟩ | ⟨g, cap, cur, rfl, hbg, _⟩
    · intro h; cases h
    · intro h
      have : k = g := Option.some.inj h
      omega
  rw [hg.block k (by omega) hne, hb.block k hk]
theorem blk_loose {w : World} {g : Nat} {cs : Array Value} {t : TypeId} (ho : w.heap[g]? = some (.cells cs t (0, 0))) (j : Nat) : w.frozen? ⟨g, j, none⟩ = false := by simp [World.frozen?, ho]
theorem own_new {w : World} {base e s n m : Nat} {v : Value} {xs : List Value} (h : w.ownsRow base e s v n xs) (hn : n = m) (hm : 0 < m) : ∃ g cap, v = .slice (some ⟨g, 0, none⟩) m cap ∧ base ≤ g ∧ w.ownsRow base e s v m xs := by
  subst hn
  rcases h.2 with ⟨_, h0⟩ | ⟨g, cap, cur, hv, hb, _⟩
  · omega
  · exact ⟨g, cap, hv, hb, h⟩
theorem own_any {w : World} {base e s n : Nat} {v : Value} {xs : List Value} (h : w.ownsRow base e s v n xs) (hbs : bs ≤ base) : w.ownsRow bs e s v n xs := by
  refine ⟨h.1, ?_⟩
  rcases h.2 with h2 | ⟨g, cap, cur, hv, hb, hr⟩
  · exact .inl h2
  · exact .inr ⟨g, cap, cur, hv, Nat.le_trans hbs hb, hr⟩
/-- The disk with another row. -/
theorem MWr.store {w : World} {p : Nat} {room : Int} {l k : List F} {g cap g3 cap3 base : Nat} (h : MWr bs w p room l g cap) (hr : w.ownsRow base 114 3 (.slice (some ⟨g3, 0, none⟩) k.length cap3) k.length (fileCells k)) (hbs : bs ≤ base) : MWr bs (w.setCell ⟨p, 0, none⟩ (.slice (some ⟨g3, 0, none⟩) k.length cap3)) p room k g3 cap3 := by
  have hne : g3 ≠ p := fun e => by
    subst e
    rcases hr.2 with ⟨h2, _⟩ | ⟨g2, cap2, cur, hv, hb, hg, _⟩
    · cases h2
    · cases hv
      have := h.own
      rw [hg] at this
      simp at this
  refine ⟨set_blk h.own 0 _, h.lo, ?_⟩
  obtain ⟨h1, h2⟩ := own_any hr hbs
  refine ⟨h1, ?_⟩
  rcases h2 with h2 | ⟨g2, cap2, cur, hv, hb, hg, hrest⟩
  · exact .inl h2
  · cases hv
    exact .inr ⟨g3, cap3, cur, rfl, hb, by rw [set_oth hne]; exact hg, hrest⟩
theorem own_empty (w : World) : (w.alloc (.cells #[] 114)).ownsRow w.heap.size 114 3 (.slice (some ⟨w.heap.size, 0, none⟩) 0 0) 0 [] :=
  ⟨rfl, .inr ⟨w.heap.size, 0, #[], rfl, Nat.le_refl _, heap_alloc_new w _, Nat.le_refl _, Nat.zero_le _, rfl, rfl⟩⟩
section
variable (p : Nat) (room : Int) (l : List F) (n s : Tx) (w : World)
set_option maxHeartbeats 4000000 in
set_option maxRecDepth 100000 in
theorem mAppend_newA (u g cap : Nat) (hkc0 : idx n l < cap) (hm : MWr bs w p room l g cap) (hs : Sorted l) (hl : l.length < 40) (hn : n.length ≤ 1000000) (hr : nameL n = true) (hf : find n l = none) (HU : Hid (used l = u)) (hu : u ≤ 4000000000) (hsl : s.length ≤ 4000000000) (hfu : (u : Int) + (s.length : Int) ≤ room) :
    Calls Tryz.prog 26 #[.pointer (some ⟨p, 0, none⟩), .string (B n), .string (B s)] w fun x w' => x = .returned (.int .i64 0) ∧ MAt bs w' p room (put ⟨n, s, 0⟩ l) ∧ Kp bs p w w' := by
  obtain ⟨i0, hi, hz0, hz1, hz2⟩ := info_parts Tryz.infoFile
  obtain ⟨k, HK⟩ : ∃ k, Hid (idx n l = k) := ⟨_, Lib.hid rfl⟩
  have hkl : k ≤ l.length := by rw [← HK.out]; exact idx_le n l
  have HL2 : Hid (put ⟨n, s, 0⟩ l = l.take k ++ ⟨n, s, 0⟩ :: l.drop k) := Lib.hid (by
    rw [put_new (f := ⟨n, s, 0⟩) hs hf, HK.out])
  have HI : Hid (isAt n l = false) := Lib.hid (by unfold isAt; rw [hf]; rfl)
  have HM := Lib.hid hm
  have HS := Lib.hid hs
  have HN := Lib.hid hr
  have hw : IntKind.i64.wrap ((u : Int) + (s.length : Int)) = (u : Int) + (s.length : Int) := IntWalk.i64_in _ ⟨by omega, by omega⟩
  have hfd : decide (room < (u : Int) + (s.length : Int)) = false := decide_eq_false (by omega)
  have h40i : ¬ (40 : Int) ≤ (l.length : Int) := by omega
  have kc := catD (a := []) (c := s) (by simp; omega)
  clear hm hr hs hf
  go_enter Tryz.func26, Tryz.ntmps26
  go_wp2_with fail
  refine (refName_l n w hn).mono ?_
  rintro x w1 ⟨rfl, hb⟩
  rw [HN.out]
  have HB := Lib.hid hb
  have HM1 := Lib.hid (HM.out.below hb)
  clear hb
  go_wp2_with fail
  refine (mFind_l p room l n k false w1 HM1.out.at HS.out (by omega) HK HI).mono ?_
  rintro x w2 ⟨rfl, hq⟩
  have HKP := Lib.hid ((Kp.of_below (bs := bs) (p := p) HB.out).trans (Kp.quiet hq))
  have HM2 := Lib.hid (HM1.out.quiet hq)
  have HU2 : Hid (∀ w', sQuiet w2 w' → Calls Tryz.prog 35 #[.pointer (some ⟨p, 0, none⟩)] w' fun x w3 => x = .returned (.int .i64 (u : Int)) ∧ sQuiet w' w3) := Lib.hid fun w' h => mUsed_l p room l u w' (HM2.out.quiet h).at (by omega) (by rw [HU.out]; exact hu) HU
  clear hq HM HM1 HB
  have c0 := HM2.out.cells.1
  go_wp2
  clear c0
  have hS : w2.cell? ⟨p, 1, none⟩ = some (.int .i64 room) ∧ sQuiet w2 w2 := ⟨HM2.out.cells.2, 0, rfl⟩
  go_region_held3 (fun w' => w'.cell? ⟨p, 1, none⟩ = some (.int .i64 room) ∧ sQuiet w2 w')
    (first | assumption | exact R1_drew (by assumption) | exact R1_call (by assumption) (by assumption))
    (first | (go_at_call 35; with_reducible refine (HU2.out _ (And.right (by assumption))).mono ?_; rintro x w4 ⟨rfl, hq4⟩))
  rename_i hHeld
  have HW4 := Lib.hid (HM2.out.quiet hHeld.2)
  have HK4 := Lib.hid (HKP.out.trans (Kp.quiet hHeld.2))
  clear hHeld hS hq4 HM2 HKP HU2
  obtain ⟨cur, hg, hcs, hlc, hgp, hglo⟩ := HW4.out.blk
  clear hg hcs hgp hglo
  have HBS : Hid (bs ≤ w4.heap.size) := Lib.hid (by have := HW4.out.lo; have := blk_lt HW4.out.own; omega)
  have hkc : (k : Int) ≤ (cap : Int) := by omega
  have hkc2 : k < cap := by rw [← HK.out]; exact hkc0
  have hkc3 : ¬ cap = k := by omega
  have hkc4 : ¬ cap - k = 0 := by omega
  have hkc5 : ¬ k = cap := by omega
  have hki : (k : Int) ≤ (l.length : Int) := by omega
  have HBa := Lib.hid ((Below.refl w4.heap.size w4).alloc (Nat.le_refl _) (.cells #[] 114))
  have c0 := (HW4.out.below HBa.out).cells.1
  have htk : (l.take k).length = k := by rw [List.length_take]; omega
  have hdk : (l.drop k).length = l.length - k := List.length_drop ..
  go_wp2_with (at_builtin; first
    | (refine wpList_append_own _ rfl _ _ 102 rfl w4.heap.size 114 i0 _ 3 40 Tryz.underlying102 hi hz0 hz1 hz2 rfl (by decide) _ _ _ rfl (own_empty w4) ⟨g, 0, none⟩ k cap (fileCells (l.take k)) rfl (by rw [fileCells_len, htk]) (MWr.news (i := 0) (HW4.out.below HBa.out) (.inr ⟨_, rfl, fileCells_take l k⟩)) (file_one _) (by unfold maxLen; omega) (by omega) (by simp) ?_; intro v1 w5 hown1 hgrow1 _; have HB5 := Lib.hid (below_grownS HBa.out (by simp) (own_empty w4) hgrow1); have c05 := (HW4.out.below HB5.out).cells.1; clear hgrow1)
    | (refine wpList_append_own _ rfl _ _ 102 rfl w4.heap.size 114 i0 _ 3 40 Tryz.underlying102 hi hz0 hz1 hz2 rfl (by decide) _ _ _ rfl (hown1.alloc _) ⟨w5.heap.size, 0, none⟩ 1 1 [.string (B n), .string ⟨#[]⟩, .int .i64 0] rfl rfl (World.news_of_block (cs := #[.string (B n), .string ⟨#[]⟩, .int .i64 0]) (t := 114) (fr := (0, 0)) (heap_alloc_new w5 _)) (by simp [Value.oneCell']) (by unfold maxLen; omega) (by omega) (by have := HB5.out.size; simp; omega) ?_; intro v2 w6 hown2 hgrow2 _; have HB6 := Lib.hid (below_grownS (HB5.out.alloc HB5.out.size _) (by have := HB5.out.size; simp; omega) (hown1.alloc _) hgrow2); have c06 := (HW4.out.below HB6.out).cells.1; clear hgrow2)
    | (refine wpList_append_own _ rfl _ _ 102 rfl w4.heap.size 114 i0 _ 3 40 Tryz.underlying102 hi hz0 hz1 hz2 rfl (by decide) _ _ _ rfl hown2 ⟨g, k * 3, none⟩ (l.length - k) (cap - k) (fileCells (l.drop k)) rfl (by rw [fileCells_len, hdk]) (MWr.news (i := k) (HW4.out.below HB6.out) (.inl (fileCells_drop l k))) (file_one _) (by unfold maxLen; omega) (by omega) HB6.out.size ?_; intro v3 w7 hown3 hgrow3 _; have HB7 := Lib.hid (below_grownS HB6.out HB6.out.size hown2 hgrow3); have c07 := (HW4.out.below HB7.out).cells.1; have f07 := blk_loose (HW4.out.below HB7.out).own 0; obtain ⟨g3, cap3, rfl, hg3, hown4⟩ := own_new (m := l.length + 1) hown3 (by omega) (by omega); have HO4 := Lib.hid hown4; clear hgrow3 hown3 hown4))
  have elA : [] ++ fileCells (l.take k) ++ [.string (B n), .string ⟨#[]⟩, .int .i64 0] ++ fileCells (l.drop k) = fileCells (l.take k ++ ⟨n, [], 0⟩ :: l.drop k) := by
    rw [fileCells_app, List.nil_append, List.append_assoc]
    rfl
  rw [elA] at HO4
  clear elA
  have hlA : (l.take k ++ (⟨n, [], 0⟩ : F) :: l.drop k).length = l.length + 1 := by rw [List.length_append, List.length_cons, htk, hdk]; omega
  have hkA : k < (l.take k ++ (⟨n, [], 0⟩ : F) :: l.drop k).length := by omega
  have hgA : (l.take k ++ (⟨n, [], 0⟩ : F) :: l.drop k)[k] = ⟨n, [], 0⟩ := by
    rw [List.getElem_append_right (by omega)]
    simp [htk]
  have HSA : Hid ((l.take k ++ (⟨n, [], 0⟩ : F) :: l.drop k).set k ⟨n, s, 0⟩ = l.take k ++ ⟨n, s, 0⟩ :: l.drop k) := Lib.hid (by
    rw [List.set_append_right _ _ (by omega), htk, Nat.sub_self, List.set_cons_zero])
  generalize hA : l.take k ++ (⟨n, [], 0⟩ : F) :: l.drop k = lA at HO4 hlA hkA hgA HSA
  clear hA
  rw [← hlA] at HO4 ⊢
  have HW8 := Lib.hid ((HW4.out.below HB7.out).store HO4.out HBS.out)
  have HK8 := Lib.hid ((HK4.out.trans (Kp.of_below HB7.out)).set_own HW4.out.lo 0 (.slice (some ⟨g3, 0, none⟩) lA.length cap3))
  generalize w7.setCell ⟨p, 0, none⟩ (.slice (some ⟨g3, 0, none⟩) lA.length cap3) = w8 at HW8 HK8 ⊢
  have HC := Lib.hid (fileCells_at hkA)
  rw [hgA] at HC
  have HSY := Lib.hid (fileCells_data hkA s)
  rw [hgA] at HSY
  have hk1 : (k : Int) < (lA.length : Int) := by omega
  have c08 := HW8.out.cells.1
  have x1 : w8.cell? ⟨g3, k * 3 + 1, none⟩ = some (.string (B [])) := (HW8.out.cell (by omega)).trans HC.out.2.1
  have f1 := HW8.out.loose (k * 3 + 1)
  clear c0 c05 c06 c07 f07 hown1 hown2 HO4 hgA
  go_region
  all_goals (try go_wp2)
  go_ret
  rw [HL2.out, ← HSA.out]
  obtain ⟨cur, hg, -, -, -, hlo⟩ := HW8.out.blk
  exact ⟨rfl, (MWr.setRow (HW8.out.quiet ⟨_, rfl⟩) (List.length_set ..) HSY.out).at, ((HK8.out.drewN _).set_row hg hlo _ _)⟩
end
end Go.Proofs.YtmfhipjceeijmaaGreatDoor.D

/-
  Walks of the document's disk (package bucketlineref8): Append of a new file: the other two ways, and all of Append.
-/
namespace Go.Proofs.YtmfhipjceeijmaaGreatDoor.D
open Go.RowKit
attribute [local go_sem] ext_Bd ext_Bl ext_Bt toList_B add_B size_B get_Bt
variable {bs : Nat}

/-- The disk without a row yet. -/
def M0 (bs : Nat) (w : World) (p : Nat) (room : Int) : Prop := bs ≤ p ∧ w.heap[p]? = some (.cells #[.slice none 0 0, .int .i64 room] 104 (0, 0))
theorem M0.at {w : World} {p : Nat} {room : Int} (h : M0 bs w p room) : MAt bs w p room [] := ⟨h.1, _, h.2, rfl, .inl ⟨rfl, rfl⟩⟩
theorem M0.below {w w' : World} {p : Nat} {room : Int} (h : M0 bs w p room) (hb : Below w.heap.size w w') : M0 bs w' p room := by
  refine ⟨h.1, ?_⟩
  rw [hb.block p (blk_lt h.2)]; exact h.2
theorem M0.quiet {w w' : World} {p : Nat} {room : Int} (h : M0 bs w p room) (hq : sQuiet w w') : M0 bs w' p room := by obtain ⟨n, rfl⟩ := hq; exact h
theorem M0.cell {w : World} {p : Nat} {room : Int} (h : M0 bs w p room) : w.cell? ⟨p, 0, none⟩ = some (.slice none 0 0) := by
  simp [World.cell?, h.2]
theorem M0.store {w : World} {p : Nat} {room : Int} {f : F} {g3 cap3 base : Nat} (h : M0 bs w p room) (hr : w.ownsRow base 114 3 (.slice (some ⟨g3, 0, none⟩) 1 cap3) 1 (fileCells [f])) (hbs : bs ≤ base) : MWr bs (w.setCell ⟨p, 0, none⟩ (.slice (some ⟨g3, 0, none⟩) 1 cap3)) p room [f] g3 cap3 := by
  have hne : g3 ≠ p := fun e => by
    subst e
    rcases hr.2 with ⟨h2, _⟩ | ⟨g2, cap2, cur, hv, hb, hg, _⟩
    · cases h2
    · cases hv
      have h9 := h.2
      rw [hg] at h9
      simp at h9
  refine ⟨set_blk h.2 0 _, h.1, ?_⟩
  obtain ⟨h1, h2⟩ := own_any hr hbs
  refine ⟨h1, ?_⟩
  rcases h2 with h2 | ⟨g2, cap2, cur, hv, hb, hg, hrest⟩
  · exact .inl h2
  · cases hv
    exact .inr ⟨g3, cap3, cur, rfl, hb, by rw [set_oth hne]; exact hg, hrest⟩
theorem MAt.two {w : World} {p : Nat} {room : Int} {l : List F} (h : MAt bs w p room l) : (M0 bs w p room ∧ l = []) ∨ ∃ g cap, MWr bs w p room l g cap := by
  obtain ⟨hlo, v, hp, hr⟩ := h
  have h2 := hr.2
  rcases h2 with ⟨rfl, h0⟩ | ⟨g, cap, cur, rfl, _⟩
  · exact .inl ⟨⟨hlo, hp⟩, List.eq_nil_of_length_eq_zero h0⟩
  · exact .inr ⟨g, cap, hp, hlo, hr⟩
theorem new_two (w : World) (A R : Obj) : ((w.alloc A).alloc R).heap[w.heap.size + 1]? = some R := by
  have := heap_alloc_new (w.alloc A) R
  simpa using this
section
variable (p : Nat) (room : Int) (l : List F) (n s : Tx) (w : World)
set_option maxHeartbeats 4000000 in
set_option maxRecDepth 100000 in
theorem mAppend_newB (u g cap : Nat) (hkc0 : idx n l = cap) (hm : MWr bs w p room l g cap) (hs : Sorted l) (hl : l.length < 40) (hn : n.length ≤ 1000000) (hr : nameL n = true) (hf : find n l = none) (HU : Hid (used l = u)) (hu : u ≤ 4000000000) (hsl : s.length ≤ 4000000000) (hfu : (u : Int) + (s.length : Int) ≤ room) :
    Calls Tryz.prog 26 #[.pointer (some ⟨p, 0, none⟩), .string (B n), .string (B s)] w fun x w' => x = .returned (.int .i64 0) ∧ MAt bs w' p room (put ⟨n, s, 0⟩ l) ∧ Kp bs p w w' := by
  obtain ⟨i0, hi, hz0, hz1, hz2⟩ := info_parts Tryz.infoFile
  obtain ⟨k, HK⟩ : ∃ k, Hid (idx n l = k) := ⟨_, Lib.hid rfl⟩
  have hkl : k ≤ l.length := by rw [← HK.out]; exact idx_le n l
  have HL2 : Hid (put ⟨n, s, 0⟩ l = l.take k ++ ⟨n, s, 0⟩ :: l.drop k) := Lib.hid (by
    rw [put_new (f := ⟨n, s, 0⟩) hs hf, HK.out])
  have HI : Hid (isAt n l = false) := Lib.hid (by unfold isAt; rw [hf]; rfl)
  have HM := Lib.hid hm
  have HS := Lib.hid hs
  have HN := Lib.hid hr
  have hw : IntKind.i64.wrap ((u : Int) + (s.length : Int)) = (u : Int) + (s.length : Int) := IntWalk.i64_in _ ⟨by omega, by omega⟩
  have hfd : decide (room < (u : Int) + (s.length : Int)) = false := decide_eq_false (by omega)
  have h40i : ¬ (40 : Int) ≤ (l.length : Int) := by omega
  have kc := catD (a := []) (c := s) (by simp; omega)
  clear hm hr hs hf
  go_enter Tryz.func26, Tryz.ntmps26
  go_wp2_with fail
  refine (refName_l n w hn).mono ?_
  rintro x w1 ⟨rfl, hb⟩
  rw [HN.out]
  have HB := Lib.hid hb
  have HM1 := Lib.hid (HM.out.below hb)
  clear hb
  go_wp2_with fail
  refine (mFind_l p room l n k false w1 HM1.out.at HS.out (by omega) HK HI).mono ?_
  rintro x w2 ⟨rfl, hq⟩
  have HKP := Lib.hid ((Kp.of_below (bs := bs) (p := p) HB.out).trans (Kp.quiet hq))
  have HM2 := Lib.hid (HM1.out.quiet hq)
  have HU2 : Hid (∀ w', sQuiet w2 w' → Calls Tryz.prog 35 #[.pointer (some ⟨p, 0, none⟩)] w' fun x w3 => x = .returned (.int .i64 (u : Int)) ∧ sQuiet w' w3) := Lib.hid fun w' h => mUsed_l p room l u w' (HM2.out.quiet h).at (by omega) (by rw [HU.out]; exact hu) HU
  clear hq HM HM1 HB
  have c0 := HM2.out.cells.1
  go_wp2
  clear c0
  have hS : w2.cell? ⟨p, 1, none⟩ = some (.int .i64 room) ∧ sQuiet w2 w2 := ⟨HM2.out.cells.2, 0, rfl⟩
  go_region_held3 (fun w' => w'.cell? ⟨p, 1, none⟩ = some (.int .i64 room) ∧ sQuiet w2 w')
    (first | assumption | exact R1_drew (by assumption) | exact R1_call (by assumption) (by assumption))
    (first | (go_at_call 35; with_reducible refine (HU2.out _ (And.right (by assumption))).mono ?_; rintro x w4 ⟨rfl, hq4⟩))
  rename_i hHeld
  have HW4 := Lib.hid (HM2.out.quiet hHeld.2)
  have HK4 := Lib.hid (HKP.out.trans (Kp.quiet hHeld.2))
  clear hHeld hS hq4 HM2 HKP HU2
  obtain ⟨cur, hg, hcs, hlc, hgp, hglo⟩ := HW4.out.blk
  clear hg hcs hgp hglo
  have HBS : Hid (bs ≤ w4.heap.size) := Lib.hid (by have := HW4.out.lo; have := blk_lt HW4.out.own; omega)
  have hck : k = cap := HK.out.symm.trans hkc0
  subst hck
  have hkc : (k : Int) ≤ (k : Int) := by omega
  have hki : (k : Int) ≤ (l.length : Int) := by omega
  have HBa := Lib.hid ((Below.refl w4.heap.size w4).alloc (Nat.le_refl _) (.cells #[] 114))
  have c0 := (HW4.out.below HBa.out).cells.1
  have htk : (l.take k).length = k := by rw [List.length_take]; omega
  have hdk : (l.drop k).length = l.length - k := List.length_drop ..
  go_wp2_with (at_builtin; first
    | (refine wpList_append_own _ rfl _ _ 102 rfl w4.heap.size 114 i0 _ 3 40 Tryz.underlying102 hi hz0 hz1 hz2 rfl (by decide) _ _ _ rfl (own_empty w4) ⟨g, 0, none⟩ k k (fileCells (l.take k)) rfl (by rw [fileCells_len, htk]) (MWr.news (i := 0) (HW4.out.below HBa.out) (.inr ⟨_, rfl, fileCells_take l k⟩)) (file_one _) (by unfold maxLen; omega) (by omega) (by simp) ?_; intro v1 w5 hown1 hgrow1 _; have HB5 := Lib.hid (below_grownS HBa.out (by simp) (own_empty w4) hgrow1); have c05 := (HW4.out.below HB5.out).cells.1; clear hgrow1)
    | (refine wpList_append_own _ rfl _ _ 102 rfl w4.heap.size 114 i0 _ 3 40 Tryz.underlying102 hi hz0 hz1 hz2 rfl (by decide) _ _ _ rfl (hown1.alloc _) ⟨w5.heap.size, 0, none⟩ 1 1 [.string (B n), .string ⟨#[]⟩, .int .i64 0] rfl rfl (World.news_of_block (cs := #[.string (B n), .string ⟨#[]⟩, .int .i64 0]) (t := 114) (fr := (0, 0)) (heap_alloc_new w5 _)) (by simp [Value.oneCell']) (by unfold maxLen; omega) (by omega) (by have := HB5.out.size; simp; omega) ?_; intro v2 w6 hown2 hgrow2 _; have HB6 := Lib.hid (below_grownS (HB5.out.alloc HB5.out.size _) (by have := HB5.out.size; simp; omega) (hown1.alloc _) hgrow2); have c06 := (HW4.out.below HB6.out).cells.1; clear hgrow2)
    | (refine wpList_append_own _ rfl _ _ 102 rfl w4.heap.size 114 i0 _ 3 40 Tryz.underlying102 hi hz0 hz1 hz2 rfl (by decide) _ _ _ rfl hown2 ⟨g, 0, none⟩ 0 _ [] rfl rfl (fun j u h => by simp at h) (fun u h => by cases h) (by unfold maxLen; omega) (by omega) HB6.out.size ?_; intro v3 w7 hown3 hgrow3 _; have HB7 := Lib.hid (below_grownS HB6.out HB6.out.size hown2 hgrow3); have c07 := (HW4.out.below HB7.out).cells.1; have f07 := blk_loose (HW4.out.below HB7.out).own 0; obtain ⟨g3, cap3, rfl, hg3, hown4⟩ := own_new (m := l.length + 1) hown3 (by omega) (by omega); have HO4 := Lib.hid hown4; clear hgrow3 hown3 hown4))
  have elA : [] ++ fileCells (l.take k) ++ [.string (B n), .string ⟨#[]⟩, .int .i64 0] ++ [] = fileCells (l.take k ++ ⟨n, [], 0⟩ :: l.drop k) := by
    rw [fileCells_app, List.nil_append, List.append_nil, List.drop_of_length_le (by omega)]
    rfl
  rw [elA] at HO4
  clear elA
  have hlA : (l.take k ++ (⟨n, [], 0⟩ : F) :: l.drop k).length = l.length + 1 := by rw [List.length_append, List.length_cons, htk, hdk]; omega
  have hkA : k < (l.take k ++ (⟨n, [], 0⟩ : F) :: l.drop k).length := by omega
  have hgA : (l.take k ++ (⟨n, [], 0⟩ : F) :: l.drop k)[k] = ⟨n, [], 0⟩ := by
    rw [List.getElem_append_right (by omega)]
    simp [htk]
  have HSA : Hid ((l.take k ++ (⟨n, [], 0⟩ : F) :: l.drop k).set k ⟨n, s, 0⟩ = l.take k ++ ⟨n, s, 0⟩ :: l.drop k) := Lib.hid (by
    rw [List.set_append_right _ _ (by omega), htk, Nat.sub_self, List.set_cons_zero])
  generalize hA : l.take k ++ (⟨n, [], 0⟩ : F) :: l.drop k = lA at HO4 hlA hkA hgA HSA
  clear hA
  rw [← hlA] at HO4 ⊢
  have HW8 := Lib.hid ((HW4.out.below HB7.out).store HO4.out HBS.out)
  have HK8 := Lib.hid ((HK4.out.trans (Kp.of_below HB7.out)).set_own HW4.out.lo 0 (.slice (some ⟨g3, 0, none⟩) lA.length cap3))
  generalize w7.setCell ⟨p, 0, none⟩ (.slice (some ⟨g3, 0, none⟩) lA.length cap3) = w8 at HW8 HK8 ⊢
  have HC := Lib.hid (fileCells_at hkA)
  rw [hgA] at HC
  have HSY := Lib.hid (fileCells_data hkA s)
  rw [hgA] at HSY
  have hk1 : (k : Int) < (lA.length : Int) := by omega
  have c08 := HW8.out.cells.1
  have x1 : w8.cell? ⟨g3, k * 3 + 1, none⟩ = some (.string (B [])) := (HW8.out.cell (by omega)).trans HC.out.2.1
  have f1 := HW8.out.loose (k * 3 + 1)
  clear c0 c05 c06 c07 f07 hown1 hown2 HO4 hgA
  go_region
  all_goals (try go_wp2)
  go_ret
  rw [HL2.out, ← HSA.out]
  obtain ⟨cur, hg, -, -, -, hlo⟩ := HW8.out.blk
  exact ⟨rfl, (MWr.setRow (HW8.out.quiet ⟨_, rfl⟩) (List.length_set ..) HSY.out).at, ((HK8.out.drewN _).set_row hg hlo _ _)⟩
end
section
variable (p : Nat) (room : Int) (n s : Tx) (w : World)
set_option maxHeartbeats 4000000 in
set_option maxRecDepth 100000 in
theorem mAppend_new0 (u : Nat) (hm : M0 bs w p room) (hn : n.length ≤ 1000000) (hr : nameL n = true) (HU : Hid (used [] = u)) (hu : u ≤ 4000000000) (hsl : s.length ≤ 4000000000) (hfu : (u : Int) + (s.length : Int) ≤ room) :
    Calls Tryz.prog 26 #[.pointer (some ⟨p, 0, none⟩), .string (B n), .string (B s)] w fun x w' => x = .returned (.int .i64 0) ∧ MAt bs w' p room (put ⟨n, s, 0⟩ []) ∧ Kp bs p w w' := by
  obtain ⟨i0, hi, hz0, hz1, hz2⟩ := info_parts Tryz.infoFile
  have HI : Hid (isAt n [] = false) := Lib.hid rfl
  have HM := Lib.hid hm
  have HN := Lib.hid hr
  have hw : IntKind.i64.wrap ((u : Int) + (s.length : Int)) = (u : Int) + (s.length : Int) := IntWalk.i64_in _ ⟨by omega, by omega⟩
  have hfd : decide (room < (u : Int) + (s.length : Int)) = false := decide_eq_false (by omega)
  have kc := catD (a := []) (c := s) (by simp; omega)
  clear hm hr
  go_enter Tryz.func26, Tryz.ntmps26
  go_wp2_with fail
  refine (refName_l n w hn).mono ?_
  rintro x w1 ⟨rfl, hb⟩
  rw [HN.out]
  have HB := Lib.hid hb
  have HM1 := Lib.hid (HM.out.below hb)
  clear hb
  go_wp2_with fail
  refine (mFind_l p room [] n 0 false w1 HM1.out.at List.Pairwise.nil (by simp) (Lib.hid rfl) HI).mono ?_
  rintro x w2 ⟨rfl, hq⟩
  have HKP := Lib.hid ((Kp.of_below (bs := bs) (p := p) HB.out).trans (Kp.quiet hq))
  have HM2 := Lib.hid (HM1.out.quiet hq)
  have HU2 : Hid (∀ w', sQuiet w2 w' → Calls Tryz.prog 35 #[.pointer (some ⟨p, 0, none⟩)] w' fun x w3 => x = .returned (.int .i64 (u : Int)) ∧ sQuiet w' w3) := Lib.hid fun w' h => mUsed_l p room [] u w' (HM2.out.quiet h).at (by simp) (by rw [HU.out]; exact hu) HU
  clear hq HM HM1 HB
  have c0 := HM2.out.cell
  go_wp2
  clear c0
  have hS : w2.cell? ⟨p, 1, none⟩ = some (.int .i64 room) ∧ sQuiet w2 w2 := ⟨HM2.out.at.room, 0, rfl⟩
  go_region_held3 (fun w' => w'.cell? ⟨p, 1, none⟩ = some (.int .i64 room) ∧ sQuiet w2 w')
    (first | assumption | exact R1_drew (by assumption) | exact R1_call (by assumption) (by assumption))
    (first | (go_at_call 35; with_reducible refine (HU2.out _ (And.right (by assumption))).mono ?_; rintro x w4 ⟨rfl, hq4⟩))
  rename_i hHeld
  have HW4 := Lib.hid (HM2.out.quiet hHeld.2)
  have HK4 := Lib.hid (HKP.out.trans (Kp.quiet hHeld.2))
  clear hHeld hS hq4 HM2 HKP HU2
  have HBa := Lib.hid ((Below.refl w4.heap.size w4).alloc (Nat.le_refl _) (.cells #[] 114))
  have c0 := (HW4.out.below HBa.out).cell
  go_wp2_with (at_builtin; first
    | (refine wpList_append_own_none rfl _ _ 102 rfl w4.heap.size 114 i0 3 Tryz.underlying102 hi _ _ _ rfl (own_empty w4) rfl ?_)
    | (refine wpList_append_own _ rfl _ _ 102 rfl w4.heap.size 114 i0 _ 3 40 Tryz.underlying102 hi hz0 hz1 hz2 rfl (by decide) _ _ _ rfl ((own_empty w4).alloc (.cells #[.string (B n), .string ⟨#[]⟩, .int .i64 0] 114)) ⟨w4.heap.size + 1, 0, none⟩ 1 1 [.string (B n), .string ⟨#[]⟩, .int .i64 0] rfl rfl (World.news_of_block (cs := #[.string (B n), .string ⟨#[]⟩, .int .i64 0]) (t := 114) (fr := (0, 0)) (new_two w4 (.cells #[] 114) (.cells #[.string (B n), .string ⟨#[]⟩, .int .i64 0] 114))) (by simp [Value.oneCell']) (by unfold maxLen; omega) (by omega) (by simp; omega) ?_; intro v2 w6 hown2 hgrow2 _; have HB6 := Lib.hid (below_grownS (HBa.out.alloc HBa.out.size (.cells #[.string (B n), .string ⟨#[]⟩, .int .i64 0] 114)) (by simp; omega) ((own_empty w4).alloc (.cells #[.string (B n), .string ⟨#[]⟩, .int .i64 0] 114)) hgrow2); have c06 := (HW4.out.below HB6.out).cell; have f06 := blk_loose (HW4.out.below HB6.out).2 0; obtain ⟨g3, cap3, rfl, hg3, hown4⟩ := own_new (m := 1) hown2 (by omega) (by omega); have HO4 := Lib.hid hown4; clear hgrow2 hown2)
    | (refine wpList_append_own_none rfl _ _ 102 rfl w4.heap.size 114 i0 3 Tryz.underlying102 hi _ _ _ rfl hown4 rfl ?_))
  have elA : [] ++ [.string (B n), .string ⟨#[]⟩, .int .i64 0] = fileCells [⟨n, [], 0⟩] := rfl
  rw [elA] at HO4
  clear elA
  have HW8 := Lib.hid ((HW4.out.below HB6.out).store HO4.out (by have := HW4.out.1; have := blk_lt HW4.out.2; omega))
  have HK8 := Lib.hid ((HK4.out.trans (Kp.of_below HB6.out)).set_own HW4.out.1 0 (.slice (some ⟨g3, 0, none⟩) 1 cap3))
  generalize w6.setCell ⟨p, 0, none⟩ (.slice (some ⟨g3, 0, none⟩) 1 cap3) = w8 at HW8 HK8 ⊢
  have HSY : Hid ((fileCells [⟨n, [], 0⟩]).set 1 (.string (B s)) = fileCells [⟨n, s, 0⟩]) := Lib.hid rfl
  have c08 := HW8.out.cells.1
  have x1 : w8.cell? ⟨g3, 1, none⟩ = some (.string (B [])) := (HW8.out.cell (j := 1) (by simp)).trans rfl
  have f1 := HW8.out.loose 1
  clear c0 c06 f06 HO4 hown4
  go_region
  all_goals (try go_wp2)
  go_ret
  obtain ⟨cur, hg, -, -, -, hlo⟩ := HW8.out.blk
  have h9 := MWr.setRow (k := [⟨n, s, 0⟩]) HW8.out rfl HSY.out
  exact ⟨rfl, (h9.quiet ⟨1, rfl⟩).at, (HK8.out.set_row hg hlo _ _).drewN 1⟩
end
end Go.Proofs.YtmfhipjceeijmaaGreatDoor.D

/-
  Walks of the document's disk (package bucketlineref8): all of Append; Delete.
-/
namespace Go.Proofs.YtmfhipjceeijmaaGreatDoor.D
open Go.RowKit
attribute [local go_sem] ext_Bd ext_Bl ext_Bt toList_B add_B size_B get_Bt
variable {bs : Nat}

theorem used_mem {f : F} : ∀ {l : List F}, f ∈ l → f.data.length ≤ used l
  | g :: l, h => by
    rcases List.mem_cons.1 h with rfl | h
    · simp only [used]; omega
    · have := used_mem h
      simp only [used]; omega
theorem mAppend_l (p room : Nat) (l : List F) (n s : Tx) (e : Nat) (l2 : List F) (w : World) (hm : MAt bs w p (room : Int) l) (hs : Sorted l) (hl : l.length ≤ 40) (hn : n.length ≤ 1000000) (hsl : s.length ≤ 4000000000) (hu : used l ≤ 4000000000) (H : Hid (append room n s l = (e, l2))) :
    Calls Tryz.prog 26 #[.pointer (some ⟨p, 0, none⟩), .string (B n), .string (B s)] w fun x w' => x = .returned (.int .i64 (e : Int)) ∧ MAt bs w' p (room : Int) l2 ∧ Kp bs p w w' := by
  have h := H.out
  unfold append at h
  cases hr : nameL n with
  | false =>
    rw [if_pos hr] at h
    cases h
    exact mAppend_name p room l n s w hm hn hr
  | true =>
    rw [if_neg (by rw [hr]; decide)] at h
    cases hf : find n l with
    | none =>
      by_cases h4 : 40 ≤ l.length
      · rw [if_pos ⟨hf, h4⟩] at h
        cases h
        exact mAppend_long p room l n s w hm hs (by omega) hn hr hf h4
      · rw [if_neg fun h => h4 h.2] at h
        by_cases h8 : room < used l + s.length
        · rw [if_pos h8] at h
          cases h
          exact mAppend_full p room l n s w false (used l) hm hs (by omega) hn hr (Lib.hid (by unfold isAt; rw [hf]; rfl)) (fun _ => by omega) (Lib.hid rfl) hu hsl (by omega)
        · rw [if_neg h8, hf] at h
          cases h
          rcases hm.two with ⟨h0, rfl⟩ | ⟨g, cap, hw⟩
          · exact mAppend_new0 p room n s w (used []) h0 hn hr (Lib.hid rfl) hu hsl (by omega)
          · obtain ⟨_, _, _, hlc, _, _⟩ := hw.blk
            have hi := idx_le n l
            by_cases hk : idx n l < cap
            · exact mAppend_newA p room l n s w (used l) g cap hk hw hs (by omega) hn hr hf (Lib.hid rfl) hu hsl (by omega)
            · exact mAppend_newB p room l n s w (used l) g cap (by omega) hw hs (by omega) hn hr hf (Lib.hid rfl) hu hsl (by omega)
    | some f =>
      rw [if_neg fun h => by rw [hf] at h; cases h.1] at h
      by_cases h8 : room < used l + s.length
      · rw [if_pos h8] at h
        cases h
        exact mAppend_full p room l n s w true (used l) hm hs (by omega) hn hr (Lib.hid (by unfold isAt; rw [hf]; rfl)) (fun h => by cases h) (Lib.hid rfl) hu hsl (by omega)
      · rw [if_neg h8, hf] at h
        cases h
        have := used_mem (find_some hf).1
        exact mAppend_old p room l n s w f (used l) hm hs (by omega) hn hr hf (Lib.hid rfl) hu hsl (by omega) (by omega)
/-- All that was there stays, but the disk's own block. -/
structure Kq (p : Nat) (w w' : World) : Prop where
  os : w'.os = w.os
  tape : w'.tape = w.tape
  output : w'.output = w.output
  size : w.heap.size ≤ w'.heap.size
  block : ∀ k, k < w.heap.size → k ≠ p → w'.heap[k]? = w.heap[k]?
theorem Kq.trans {p : Nat} {a b c : World} (h : Kq p a b) (k : Kq p b c) : Kq p a c :=
  ⟨k.os.trans h.os, k.tape.trans h.tape, k.output.trans h.output, Nat.le_trans h.size k.size, fun i hi hp => (k.block i (Nat.lt_of_lt_of_le hi h.size) hp).trans (h.block i hi hp)⟩
theorem Kq.of_below {p : Nat} {w w' : World} (h : Below w.heap.size w w') : Kq p w w' := ⟨h.os, h.tape, h.output, h.size, fun k hk _ => h.block k hk⟩
theorem Kq.quiet {p : Nat} {w w' : World} (h : sQuiet w w') : Kq p w w' := by obtain ⟨n, rfl⟩ := h; exact ⟨rfl, rfl, rfl, Nat.le_refl _, fun _ _ _ => rfl⟩
theorem Kq.set_own {p : Nat} {w w' : World} (h : Kq p w w') (j : Nat) (u : Value) : Kq p w (w'.setCell ⟨p, j, none⟩ u) :=
  ⟨h.os, h.tape, h.output, by simpa using h.size, fun k hk hp => by rw [set_oth hp]; exact h.block k hk hp⟩
theorem Kq.kp {p : Nat} {w w' : World} (h : Kq p w w') (hlo : bs ≤ p) : Kp bs p w w' := ⟨h.os, h.tape, h.output, h.size, fun k o hk hp => by
  have hkp : k ≠ p := hp.elim (fun h => by omega) (fun h => h.1)
  rw [h.block k (blk_lt hk) hkp]; exact hk⟩
/-- The disk's row does not lie in block h. -/
def Off (w : World) (p h : Nat) : Prop := ∀ v c, w.heap[p]? = some (.cells #[v, c] 104 (0, 0)) → v.ownBlock ≠ some h
theorem Off.same {w w' : World} {p h : Nat} (ho : Off w p h) (e : w'.heap[p]? = w.heap[p]?) : Off w' p h := fun v c hv => ho v c (by rw [← e]; exact hv)
theorem MWr.off {w : World} {p : Nat} {room : Int} {l : List F} {g cap h : Nat} (hw : MWr bs w p room l g cap) (hne : g ≠ h) : Off w p h := fun v c hv => by
  rw [hw.own] at hv
  simp at hv
  rw [← hv.1]
  intro e
  exact hne (Option.some.inj e)
theorem own_some {w : World} {base e s n m : Nat} {v : Value} {xs : List Value} (h : w.ownsRow base e s v n xs) (hn : n = m) (hv : v ≠ .slice none 0 0) : ∃ g cap, v = .slice (some ⟨g, 0, none⟩) m cap ∧ base ≤ g ∧ w.ownsRow base e s v m xs := by
  subst hn
  rcases h.2 with ⟨h0, _⟩ | ⟨g, cap, cur, hv, hb, _⟩
  · exact absurd h0 hv
  · exact ⟨g, cap, hv, hb, h⟩
theorem not_none {v v' : Value} {m : Nat} (h : v' = .slice none 0 0 ↔ v = .slice none 0 0 ∧ m = 0) (hv : v ≠ .slice none 0 0) : v' ≠ .slice none 0 0 := fun e => hv (h.1 e).1
section
variable (p : Nat) (room : Int) (l : List F) (n : Tx) (w : World)
set_option maxHeartbeats 2000000 in
set_option maxRecDepth 100000 in
theorem mDelete_none (hm : MAt bs w p room l) (hs : Sorted l) (hl : l.length ≤ 1000) (hf : find n l = none) :
    Calls Tryz.prog 31 #[.pointer (some ⟨p, 0, none⟩), .string (B n)] w fun x w' => x = .returned (.int .i64 6) ∧ MAt bs w' p room l ∧ Kq p w w' ∧ (∀ h, h < w.heap.size → Off w p h → Off w' p h) := by
  have HM := Lib.hid hm
  have HS := Lib.hid hs
  have HI : Hid (isAt n l = false) := Lib.hid (by unfold isAt; rw [hf]; rfl)
  clear hm hs hf
  go_enter Tryz.func31, Tryz.ntmps31
  go_wp2_with fail
  refine (mFind_l p room l n _ false w HM.out HS.out hl (Lib.hid rfl) HI).mono ?_
  rintro x w1 ⟨rfl, hq⟩
  have HQ := Lib.hid hq
  clear hq
  go_wp2
  go_ret
  obtain ⟨q, rfl⟩ := HQ.out
  exact ⟨rfl, HM.out, Kq.quiet ⟨q, rfl⟩, fun h _ ho => ho.same rfl⟩
set_option maxHeartbeats 4000000 in
set_option maxRecDepth 100000 in
theorem mDelete_A (g cap : Nat) (hkc0 : idx n l + 1 < cap) (hm : MWr bs w p room l g cap) (hs : Sorted l) (hl : l.length ≤ 40) (hf : find n l ≠ none) :
    Calls Tryz.prog 31 #[.pointer (some ⟨p, 0, none⟩), .string (B n)] w fun x w' => x = .returned (.int .i64 0) ∧ MAt bs w' p room (del n l) ∧ Kq p w w' ∧ (∀ h, h < w.heap.size → Off w p h → Off w' p h) := by
  obtain ⟨i0, hi, hz0, hz1, hz2⟩ := info_parts Tryz.infoFile
  obtain ⟨k, HK⟩ : ∃ k, Hid (idx n l = k) := ⟨_, Lib.hid rfl⟩
  have hkl : k < l.length := by
    obtain ⟨f, hf2⟩ := Option.ne_none_iff_exists'.1 hf
    obtain ⟨h, _⟩ := idx_of hs hf2
    rw [← HK.out]; exact h
  have HL2 : Hid (del n l = l.take k ++ l.drop (k + 1)) := Lib.hid (by rw [del_old hs hf, HK.out])
  have HI : Hid (isAt n l = true) := Lib.hid (by unfold isAt; cases h : find n l with | none => exact absurd h hf | some f => rfl)
  have HM := Lib.hid hm
  have HS := Lib.hid hs
  clear hm hs hf
  go_enter Tryz.func31, Tryz.ntmps31
  go_wp2_with fail
  refine (mFind_l p room l n k true w HM.out.at HS.out (by omega) HK HI).mono ?_
  rintro x w4 ⟨rfl, hq⟩
  have HW4 := Lib.hid (HM.out.quiet hq)
  have HK4 := Lib.hid (Kq.quiet (p := p) hq)
  clear hq HM
  obtain ⟨cur, hg, hcs, hlc, hgp, hglo⟩ := HW4.out.blk
  clear hg hcs hgp hglo
  have HBS : Hid (bs ≤ w4.heap.size) := Lib.hid (by have := HW4.out.lo; have := blk_lt HW4.out.own; omega)
  have hkc1 : k + 1 < cap := by rw [← HK.out]; exact hkc0
  have hkc2 : ¬ cap = k + 1 := by omega
  have hkc : (k : Int) ≤ (cap : Int) := by omega
  have hki : (k : Int) + 1 ≤ (l.length : Int) := by omega
  have HBa := Lib.hid ((Below.refl w4.heap.size w4).alloc (Nat.le_refl _) (.cells #[] 114))
  have c0 := (HW4.out.below HBa.out).cells.1
  have htk : (l.take k).length = k := by rw [List.length_take]; omega
  have hdk : (l.drop (k + 1)).length = l.length - (k + 1) := List.length_drop ..
  go_wp2_with (at_builtin; first
    | (refine wpList_append_own _ rfl _ _ 102 rfl w4.heap.size 114 i0 _ 3 40 Tryz.underlying102 hi hz0 hz1 hz2 rfl (by decide) _ _ _ rfl (own_empty w4) ⟨g, 0, none⟩ k cap (fileCells (l.take k)) rfl (by rw [fileCells_len, htk]) (MWr.news (i := 0) (HW4.out.below HBa.out) (.inr ⟨_, rfl, fileCells_take l k⟩)) (file_one _) (by unfold maxLen; omega) (by omega) (by simp) ?_; intro v1 w5 hown1 hgrow1 hn1; have HB5 := Lib.hid (below_grownS HBa.out (by simp) (own_empty w4) hgrow1); have c05 := (HW4.out.below HB5.out).cells.1; have HN1 := Lib.hid (not_none hn1 (fun h => by cases h)); clear hgrow1 hn1)
    | (refine wpList_append_own _ rfl _ _ 102 rfl w4.heap.size 114 i0 _ 3 40 Tryz.underlying102 hi hz0 hz1 hz2 rfl (by decide) _ _ _ rfl hown1 ⟨g, (k + 1) * 3, none⟩ (l.length - (k + 1)) _ (fileCells (l.drop (k + 1))) rfl (by rw [fileCells_len, hdk]) (MWr.news (i := k + 1) (HW4.out.below HB5.out) (.inl (fileCells_drop l (k + 1)))) (file_one _) (by unfold maxLen; omega) (by omega) HB5.out.size ?_; intro v3 w7 hown3 hgrow3 hn3; have HB7 := Lib.hid (below_grownS HB5.out HB5.out.size hown1 hgrow3); have c07 := (HW4.out.below HB7.out).cells.1; have f07 := blk_loose (HW4.out.below HB7.out).own 0; obtain ⟨g3, cap3, rfl, hg3, hown4⟩ := own_some (m := l.length - 1) hown3 (by omega) (not_none hn3 HN1.out); have HO4 := Lib.hid hown4; clear hgrow3 hown3 hown4 hn3))
  have elA : [] ++ fileCells (l.take k) ++ fileCells (l.drop (k + 1)) = fileCells (l.take k ++ l.drop (k + 1)) := by
    rw [fileCells_app, List.nil_append]

  rw [elA] at HO4
  clear elA
  have hlA : (l.take k ++ l.drop (k + 1)).length = l.length - 1 := by rw [List.length_append, htk, hdk]; omega
  generalize l.take k ++ l.drop (k + 1) = lA at HO4 hlA HL2
  rw [← hlA] at HO4 ⊢
  have HW8 := Lib.hid ((HW4.out.below HB7.out).store HO4.out HBS.out)
  have HK8 := Lib.hid ((HK4.out.trans (Kq.of_below HB7.out)).set_own 0 (.slice (some ⟨g3, 0, none⟩) lA.length cap3))
  go_ret
  rw [HL2.out]
  exact ⟨rfl, HW8.out.at, HK8.out, fun h hh _ => HW8.out.off (by have := HK4.out.size; omega)⟩
set_option maxHeartbeats 4000000 in
set_option maxRecDepth 100000 in
theorem mDelete_B (g cap : Nat) (hkc0 : idx n l + 1 = cap) (hm : MWr bs w p room l g cap) (hs : Sorted l) (hl : l.length ≤ 40) (hf : find n l ≠ none) :
    Calls Tryz.prog 31 #[.pointer (some ⟨p, 0, none⟩), .string (B n)] w fun x w' => x = .returned (.int .i64 0) ∧ MAt bs w' p room (del n l) ∧ Kq p w w' ∧ (∀ h, h < w.heap.size → Off w p h → Off w' p h) := by
  obtain ⟨i0, hi, hz0, hz1, hz2⟩ := info_parts Tryz.infoFile
  obtain ⟨k, HK⟩ : ∃ k, Hid (idx n l = k) := ⟨_, Lib.hid rfl⟩
  have hkl : k < l.length := by
    obtain ⟨f, hf2⟩ := Option.ne_none_iff_exists'.1 hf
    obtain ⟨h, _⟩ := idx_of hs hf2
    rw [← HK.out]; exact h
  have HL2 : Hid (del n l = l.take k ++ l.drop (k + 1)) := Lib.hid (by rw [del_old hs hf, HK.out])
  have HI : Hid (isAt n l = true) := Lib.hid (by unfold isAt; cases h : find n l with | none => exact absurd h hf | some f => rfl)
  have HM := Lib.hid hm
  have HS := Lib.hid hs
  clear hm hs hf
  go_enter Tryz.func31, Tryz.ntmps31
  go_wp2_with fail
  refine (mFind_l p room l n k true w HM.out.at HS.out (by omega) HK HI).mono ?_
  rintro x w4 ⟨rfl, hq⟩
  have HW4 := Lib.hid (HM.out.quiet hq)
  have HK4 := Lib.hid (Kq.quiet (p := p) hq)
  clear hq HM
  obtain ⟨cur, hg, hcs, hlc, hgp, hglo⟩ := HW4.out.blk
  clear hg hcs hgp hglo
  have HBS : Hid (bs ≤ w4.heap.size) := Lib.hid (by have := HW4.out.lo; have := blk_lt HW4.out.own; omega)
  have hck : k + 1 = cap := by rw [← HK.out]; exact hkc0
  subst hck
  have hkc : (k : Int) ≤ ((k + 1 : Nat) : Int) := by omega
  have hki : (k : Int) + 1 ≤ (l.length : Int) := by omega
  have HBa := Lib.hid ((Below.refl w4.heap.size w4).alloc (Nat.le_refl _) (.cells #[] 114))
  have c0 := (HW4.out.below HBa.out).cells.1
  have htk : (l.take k).length = k := by rw [List.length_take]; omega
  have hdk : (l.drop (k + 1)).length = l.length - (k + 1) := List.length_drop ..
  go_wp2_with (at_builtin; first
    | (refine wpList_append_own _ rfl _ _ 102 rfl w4.heap.size 114 i0 _ 3 40 Tryz.underlying102 hi hz0 hz1 hz2 rfl (by decide) _ _ _ rfl (own_empty w4) ⟨g, 0, none⟩ k (k + 1) (fileCells (l.take k)) rfl (by rw [fileCells_len, htk]) (MWr.news (i := 0) (HW4.out.below HBa.out) (.inr ⟨_, rfl, fileCells_take l k⟩)) (file_one _) (by unfold maxLen; omega) (by omega) (by simp) ?_; intro v1 w5 hown1 hgrow1 hn1; have HB5 := Lib.hid (below_grownS HBa.out (by simp) (own_empty w4) hgrow1); have c05 := (HW4.out.below HB5.out).cells.1; have HN1 := Lib.hid (not_none hn1 (fun h => by cases h)); clear hgrow1 hn1)
    | (refine wpList_append_own _ rfl _ _ 102 rfl w4.heap.size 114 i0 _ 3 40 Tryz.underlying102 hi hz0 hz1 hz2 rfl (by decide) _ _ _ rfl hown1 ⟨g, 0, none⟩ 0 _ [] rfl rfl (fun j u h => by simp at h) (fun u h => by cases h) (by unfold maxLen; omega) (by omega) HB5.out.size ?_; intro v3 w7 hown3 hgrow3 hn3; have HB7 := Lib.hid (below_grownS HB5.out HB5.out.size hown1 hgrow3); have c07 := (HW4.out.below HB7.out).cells.1; have f07 := blk_loose (HW4.out.below HB7.out).own 0; obtain ⟨g3, cap3, rfl, hg3, hown4⟩ := own_some (m := l.length - 1) hown3 (by omega) (not_none hn3 HN1.out); have HO4 := Lib.hid hown4; clear hgrow3 hown3 hown4 hn3))
  have elA : [] ++ fileCells (l.take k) ++ [] = fileCells (l.take k ++ l.drop (k + 1)) := by
    rw [fileCells_app, List.nil_append, List.append_nil, List.drop_of_length_le (by omega)]
    simp [fileCells]
  rw [elA] at HO4
  clear elA
  have hlA : (l.take k ++ l.drop (k + 1)).length = l.length - 1 := by rw [List.length_append, htk, hdk]; omega
  generalize l.take k ++ l.drop (k + 1) = lA at HO4 hlA HL2
  rw [← hlA] at HO4 ⊢
  have HW8 := Lib.hid ((HW4.out.below HB7.out).store HO4.out HBS.out)
  have HK8 := Lib.hid ((HK4.out.trans (Kq.of_below HB7.out)).set_own 0 (.slice (some ⟨g3, 0, none⟩) lA.length cap3))
  go_ret
  rw [HL2.out]
  exact ⟨rfl, HW8.out.at, HK8.out, fun h hh _ => HW8.out.off (by have := HK4.out.size; omega)⟩
end
theorem mDelete_l (p : Nat) (room : Int) (l : List F) (n : Tx) (e : Nat) (l2 : List F) (w : World) (hm : MAt bs w p room l) (hs : Sorted l) (hl : l.length ≤ 40) (H : Hid (delete n l = (e, l2))) :
    Calls Tryz.prog 31 #[.pointer (some ⟨p, 0, none⟩), .string (B n)] w fun x w' => x = .returned (.int .i64 (e : Int)) ∧ MAt bs w' p room l2 ∧ Kq p w w' ∧ (∀ h, h < w.heap.size → Off w p h → Off w' p h) := by
  have h := H.out
  unfold delete at h
  cases hf : find n l with
  | none =>
    rw [hf] at h
    cases h
    exact mDelete_none p room l n w hm hs (by omega) hf
  | some f =>
    rw [hf] at h
    cases h
    have hne : find n l ≠ none := by rw [hf]; intro h; cases h
    obtain ⟨hlt, _⟩ := idx_of hs hf
    obtain ⟨g, cap, hw⟩ := hm.wr (by omega)
    obtain ⟨_, _, _, hlc, _, _⟩ := hw.blk
    by_cases hk : idx n l + 1 < cap
    · exact mDelete_A p room l n w g cap hk hw hs hl hne
    · exact mDelete_B p room l n w g cap (by omega) hw hs hl hne
end Go.Proofs.YtmfhipjceeijmaaGreatDoor.D

/-
  Walks of the document's disk (package bucketlineref8): Rename.
-/
namespace Go.Proofs.YtmfhipjceeijmaaGreatDoor.D
open Go.RowKit
attribute [local go_sem] ext_Bd ext_Bl ext_Bt toList_B add_B size_B get_Bt
variable {bs : Nat}

theorem put_del {f : F} : ∀ {l : List F}, Sorted l → put f (del f.name l) = put f l
  | [], _ => rfl
  | g :: l, h => by
    obtain ⟨h1, h2⟩ := List.pairwise_cons.1 h
    by_cases hlt : lt g.name f.name = true
    · have hne : ¬ g.name = f.name := fun e => by rw [e, lt_irrefl] at hlt; cases hlt
      rw [del, if_neg hne, put, if_pos hlt, put, if_pos hlt, put_del h2]
    · by_cases he : g.name = f.name
      · have hn : find f.name l = none := he ▸ find_behind h1
        rw [del, if_pos he, del_none hn, put, if_neg hlt, if_pos he, put_new h2 hn]
        have hi : idx f.name l = 0 := by
          cases l with
          | nil => rfl
          | cons y r =>
            have := h1 y (by simp)
            rw [he] at this
            rw [idx, if_neg (by
              intro h3
              have := lt_trans this h3
              rw [lt_irrefl] at this
              cases this)]
        rw [hi]
        rfl
      · rw [del_none (find_ahead (not_lt_cases hlt he) h1)]
theorem delete_snd (n : Tx) (l : List F) : (delete n l).2 = del n l := by
  unfold delete
  cases hf : find n l with
  | none => exact (del_none hf).symm
  | some f => rfl
theorem MAt.set_off {w : World} {p : Nat} {room : Int} {l : List F} {h : Nat} (hm : MAt bs w p room l) (ho : Off w p h) (hp : p ≠ h) (j : Nat) (u : Value) : MAt bs (w.setCell ⟨h, j, none⟩ u) p room l := by
  obtain ⟨hlo, v, hv, hr⟩ := hm
  refine ⟨hlo, v, by rw [set_oth hp]; exact hv, hr.1, ?_⟩
  have hne := ho v _ hv
  rcases hr.2 with h2 | ⟨g, cap, cur, rfl, hb, hg, hrest⟩
  · exact .inl h2
  · exact .inr ⟨g, cap, cur, rfl, hb, by rw [set_oth (fun e => hne (by rw [e]; rfl))]; exact hg, hrest⟩
theorem MAt.off_new {w : World} {p : Nat} {room : Int} {l : List F} (hm : MAt bs w p room l) : Off w p w.heap.size := fun v c hv => by
  obtain ⟨_, v2, hv2, hr⟩ := hm
  rw [hv] at hv2
  simp at hv2
  obtain ⟨rfl, rfl⟩ := hv2
  rcases hr.2 with ⟨rfl, _⟩ | ⟨g, cap, cur, rfl, _, hg, _⟩
  · intro h; cases h
  · intro h
    have : g = w.heap.size := Option.some.inj h
    have := blk_lt hg
    omega
theorem Kp.set_file {p h : Nat} {w w' : World} {cs : Array Value} (hk : Kp bs p w w') (hh : w'.heap[h]? = some (.cells cs 114 (0, 0))) (hlo : bs ≤ h) (j : Nat) (u : Value) : Kp bs p w (w'.setCell ⟨h, j, none⟩ u) := hk.set_row hh hlo j u
section
variable (p : Nat) (room : Int) (l : List F) (a b : Tx) (w : World)
set_option maxHeartbeats 2000000 in
set_option maxRecDepth 100000 in
theorem mRename_none (hm : MAt bs w p room l) (hs : Sorted l) (hl : l.length ≤ 1000) (hf : find a l = none) :
    Calls Tryz.prog 62 #[.pointer (some ⟨p, 0, none⟩), .string (B a), .string (B b)] w fun x w' => x = .returned (.int .i64 6) ∧ MAt bs w' p room l ∧ Kp bs p w w' := by
  have HM := Lib.hid hm
  have HS := Lib.hid hs
  have HI : Hid (isAt a l = false) := Lib.hid (by unfold isAt; rw [hf]; rfl)
  clear hm hs hf
  go_enter Tryz.func62, Tryz.ntmps62
  go_wp2_with fail
  refine (mFind_l p room l a _ false w HM.out HS.out hl (Lib.hid rfl) HI).mono ?_
  rintro x w1 ⟨rfl, hq⟩
  have HQ := Lib.hid hq
  clear hq
  go_wp2
  go_ret
  exact ⟨rfl, HM.out.quiet HQ.out, Kp.quiet HQ.out⟩
set_option maxHeartbeats 2000000 in
set_option maxRecDepth 100000 in
theorem mRename_bad (hm : MAt bs w p room l) (hs : Sorted l) (hl : l.length ≤ 1000) (hf : find a l ≠ none) (hb : b.length ≤ 1000000) (hr : nameL b = false) :
    Calls Tryz.prog 62 #[.pointer (some ⟨p, 0, none⟩), .string (B a), .string (B b)] w fun x w' => x = .returned (.int .i64 1) ∧ MAt bs w' p room l ∧ Kp bs p w w' := by
  have HM := Lib.hid hm
  have HS := Lib.hid hs
  have HN := Lib.hid hr
  have HI : Hid (isAt a l = true) := Lib.hid (by unfold isAt; cases h : find a l with | none => exact absurd h hf | some f => rfl)
  clear hm hs hf hr
  go_enter Tryz.func62, Tryz.ntmps62
  go_wp2_with fail
  refine (mFind_l p room l a _ true w HM.out HS.out hl (Lib.hid rfl) HI).mono ?_
  rintro x w1 ⟨rfl, hq⟩
  have HM1 := Lib.hid (HM.out.quiet hq)
  have HK1 := Lib.hid (Kp.quiet (bs := bs) (p := p) hq)
  clear hq HM
  go_wp2_with fail
  refine (refName_l b w1 hb).mono ?_
  rintro x w2 ⟨rfl, hb2⟩
  rw [HN.out]
  have HB := Lib.hid hb2
  clear hb2
  go_wp2
  go_ret
  exact ⟨rfl, HM1.out.below HB.out, HK1.out.trans (Kp.of_below HB.out)⟩
set_option maxHeartbeats 8000000 in
set_option maxRecDepth 100000 in
theorem mRename_ok (f : F) (hm : MAt bs w p room l) (hs : Sorted l) (hl : l.length ≤ 40) (hf : find a l = some f) (hb : b.length ≤ 1000000) (hr : nameL b = true) :
    Calls Tryz.prog 62 #[.pointer (some ⟨p, 0, none⟩), .string (B a), .string (B b)] w fun x w' => x = .returned (.int .i64 0) ∧ MAt bs w' p room (put ⟨b, f.data, f.syn⟩ (del a l)) ∧ Kp bs p w w' := by
  obtain ⟨i0, hi, hz0, hz1, hz2⟩ := info_parts Tryz.infoFile
  obtain ⟨k0, HK0⟩ : ∃ k, Hid (idx a l = k) := ⟨_, Lib.hid rfl⟩
  obtain ⟨hlt, hfe⟩ : ∃ h : k0 < l.length, l[k0] = f := by
    have := idx_of hs hf
    simp only [HK0.out] at this
    exact this
  have HI : Hid (isAt a l = true) := Lib.hid (by unfold isAt; rw [hf]; rfl)
  have HD1 : Hid (delete a l = (0, del a l)) := Lib.hid (by unfold delete; rw [hf])
  have HS1 := Lib.hid (sorted_del (n := a) hs)
  have HL1 : Hid ((del a l).length ≤ 40) := Lib.hid (by have := length_del (n := a) hs; omega)
  obtain ⟨e2, HD2⟩ : ∃ e, Hid (delete b (del a l) = (e, del b (del a l))) := ⟨(delete b (del a l)).1, Lib.hid (by rw [← delete_snd b (del a l)])⟩
  have hs2 := sorted_del (n := b) HS1.out
  have hl2 : (del b (del a l)).length ≤ 40 := by have := length_del (n := b) HS1.out; have := HL1.out; omega
  have hf2 := find_del b (del a l)
  have HP : Hid (put ⟨b, f.data, f.syn⟩ (del a l) = put ⟨b, f.data, f.syn⟩ (del b (del a l))) := Lib.hid (put_del (f := ⟨b, f.data, f.syn⟩) HS1.out).symm
  obtain ⟨ld, HLD⟩ : ∃ ld, Hid (del b (del a l) = ld) := ⟨_, Lib.hid rfl⟩
  rw [HLD.out] at HD2 hs2 hl2 hf2 HP
  clear HLD
  obtain ⟨k, HK⟩ : ∃ k, Hid (idx b ld = k) := ⟨_, Lib.hid rfl⟩
  have hkl : k ≤ ld.length := by rw [← HK.out]; exact idx_le b ld
  have HL2 : Hid (put ⟨b, f.data, f.syn⟩ (del a l) = ld.take k ++ ⟨b, f.data, f.syn⟩ :: ld.drop k) := Lib.hid (by
    rw [HP.out, put_new (f := ⟨b, f.data, f.syn⟩) hs2 hf2, HK.out])
  have HI2 : Hid (isAt b ld = false) := Lib.hid (by unfold isAt; rw [hf2]; rfl)
  have HS2 := Lib.hid hs2
  have HC := Lib.hid (fileCells_at hlt)
  rw [hfe] at HC
  obtain ⟨g0, cap0, hw0⟩ := hm.wr (by omega)
  have HM := Lib.hid hw0
  have HS := Lib.hid hs
  have HN := Lib.hid hr
  have hk1 : (k0 : Int) < (l.length : Int) := by omega
  clear hm hr hs hf hw0 hs2 hf2 HP
  go_enter Tryz.func62, Tryz.ntmps62
  go_wp2_with fail
  refine (mFind_l p room l a k0 true w HM.out.at HS.out (by omega) HK0 HI).mono ?_
  rintro x w1 ⟨rfl, hq⟩
  have HM1 := Lib.hid (HM.out.quiet hq)
  have HK1 := Lib.hid (Kp.quiet (bs := bs) (p := p) hq)
  clear hq HM
  go_wp2_with fail
  refine (refName_l b w1 hb).mono ?_
  rintro x w2 ⟨rfl, hb2⟩
  rw [HN.out]
  have HM2 := Lib.hid (HM1.out.below hb2)
  have HK2 := Lib.hid (HK1.out.trans (Kp.of_below hb2))
  clear hb2 HM1 HK1
  have c0 := HM2.out.cells.1
  have x0 : w2.cell? ⟨g0, k0 * 3, none⟩ = some (.string (B f.name)) := (HM2.out.cell (by omega)).trans HC.out.1
  have x1 : w2.cell? ⟨g0, k0 * 3 + 1, none⟩ = some (.string (B f.data)) := (HM2.out.cell (by omega)).trans HC.out.2.1
  have x2 : w2.cell? ⟨g0, k0 * 3 + 2, none⟩ = some (.int .i64 (f.syn : Int)) := (HM2.out.cell (by omega)).trans HC.out.2.2
  obtain ⟨h, HH⟩ : ∃ h, Hid (w2.heap.size = h) := ⟨_, Lib.hid rfl⟩
  go_wp2_with fail
  have HB3 := Lib.hid ((Below.refl w2.heap.size w2).alloc (Nat.le_refl _) (.cells #[.string (B f.name), .string (B f.data), .int .i64 (f.syn : Int)] 114))
  have HX3 : Hid ((w2.alloc (.cells #[.string (B f.name), .string (B f.data), .int .i64 (f.syn : Int)] 114)).heap[h]? = some (.cells #[.string (B f.name), .string (B f.data), .int .i64 (f.syn : Int)] 114 (0, 0))) := Lib.hid (by rw [← HH.out]; exact heap_alloc_new w2 _)
  have HM3 := Lib.hid (HM2.out.below HB3.out)
  have HO3 : Hid (Off (w2.alloc (.cells #[.string (B f.name), .string (B f.data), .int .i64 (f.syn : Int)] 114)) p h) := Lib.hid (by
    rw [← HH.out]
    exact HM2.out.at.off_new.same (HB3.out.block p (blk_lt HM2.out.own)))
  have HLO : Hid (bs ≤ p) := Lib.hid HM2.out.lo
  have HBH : Hid (bs ≤ h) := Lib.hid (by
    have := blk_lt HM2.out.own
    have := HH.out
    have := HM2.out.lo
    omega)
  have HPH : Hid (p ≠ h) := Lib.hid (by
    have := blk_lt HM2.out.own
    have := HH.out
    omega)
  have HK3 := Lib.hid (HK2.out.trans (Kp.of_below HB3.out))
  have hsz3 : h < (w2.alloc (.cells #[.string (B f.name), .string (B f.data), .int .i64 (f.syn : Int)] 114)).heap.size := by rw [← HH.out]; simp
  rw [HH.out]
  generalize w2.alloc (.cells #[.string (B f.name), .string (B f.data), .int .i64 (f.syn : Int)] 114) = w3 at HX3 HM3 HO3 HK3 hsz3 ⊢
  clear HB3 HM2 HK2 c0 x0 x1 x2 HC
  refine (mDelete_l p room l a 0 (del a l) w3 HM3.out.at HS.out hl HD1).mono ?_
  rintro x w4 ⟨rfl, hm4, hk4, ho4⟩
  have HM4 := Lib.hid hm4
  have HX4 := Lib.hid ((hk4.block h hsz3 (fun e => HPH.out e.symm)).trans HX3.out)
  have HO4 := Lib.hid (ho4 h hsz3 HO3.out)
  have HK4 := Lib.hid (HK3.out.trans (hk4.kp HLO.out))
  have hsz4 : h < w4.heap.size := Nat.lt_of_lt_of_le hsz3 hk4.size
  clear hm4 hk4 ho4 HM3 HX3 HO3 HK3 hsz3
  go_wp2_with fail
  refine (mDelete_l p room (del a l) b e2 ld w4 HM4.out HS1.out HL1.out HD2).mono ?_
  rintro x w5 ⟨rfl, hm5, hk5, ho5⟩
  have HM5 := Lib.hid hm5
  have HX5 := Lib.hid ((hk5.block h hsz4 (fun e => HPH.out e.symm)).trans HX4.out)
  have HO5 := Lib.hid (ho5 h hsz4 HO4.out)
  have HK5 := Lib.hid (HK4.out.trans (hk5.kp HLO.out))
  clear hm5 hk5 ho5 HM4 HX4 HO4 HK4 hsz4
  have y0 : w5.cell? ⟨h, 0, none⟩ = some (.string (B f.name)) := by simp [World.cell?, HX5.out]
  have f0 := blk_loose HX5.out 0
  have HM6 := Lib.hid (HM5.out.set_off HO5.out HPH.out 0 (.string (B b)))
  have HX6 := Lib.hid (set_blk HX5.out 0 (.string (B b)))
  have HK6 := Lib.hid (HK5.out.set_file HX5.out HBH.out 0 (.string (B b)))
  go_wp2_with fail
  generalize w5.setCell ⟨h, 0, none⟩ (.string (B b)) = w6 at HM6 HX6 HK6 ⊢
  clear y0 f0 HM5 HX5 HK5 HO5
  refine (mFind_l p room ld b k false w6 HM6.out HS2.out (by omega) HK HI2).mono ?_
  rintro x w7 ⟨rfl, hq⟩
  have HM7 := Lib.hid (HM6.out.quiet hq)
  have HX7 : Hid (w7.heap[h]? = some (.cells #[.string (B b), .string (B f.data), .int .i64 (f.syn : Int)] 114 (0, 0))) := Lib.hid (by obtain ⟨q, rfl⟩ := hq; exact HX6.out)
  have HK7 := Lib.hid (HK6.out.trans (Kp.quiet hq))
  clear hq HM6 HX6 HK6
  have htk : (ld.take k).length = k := by rw [List.length_take]; omega
  have hdk : (ld.drop k).length = ld.length - k := List.length_drop ..
  have HBa := Lib.hid ((Below.refl w7.heap.size w7).alloc (Nat.le_refl _) (.cells #[] 114))
  rcases HM7.out.two with ⟨h0, hld⟩ | ⟨g, cap, hw7⟩
  · subst hld
    have HW7 := Lib.hid h0
    clear h0
    have c0 := (HW7.out.below HBa.out).cell
    obtain rfl : k = 0 := by have := hkl; simp at this; exact this
    have y0 : (w7.alloc (.cells #[] 114)).cell? ⟨h, 0, none⟩ = some (.string (B b)) := (by simp [World.cell?, HBa.out.block h (blk_lt HX7.out), HX7.out]); have y1 : (w7.alloc (.cells #[] 114)).cell? ⟨h, 1, none⟩ = some (.string (B f.data)) := (by simp [World.cell?, HBa.out.block h (blk_lt HX7.out), HX7.out]); have y2 : (w7.alloc (.cells #[] 114)).cell? ⟨h, 2, none⟩ = some (.int .i64 (f.syn : Int)) := (by simp [World.cell?, HBa.out.block h (blk_lt HX7.out), HX7.out])
    go_wp2_with (at_builtin; first
      | (refine wpList_append_own_none rfl _ _ 102 rfl w7.heap.size 114 i0 3 Tryz.underlying102 hi _ _ _ rfl (own_empty w7) rfl ?_)
      | (refine wpList_append_own _ rfl _ _ 102 rfl w7.heap.size 114 i0 _ 3 40 Tryz.underlying102 hi hz0 hz1 hz2 rfl (by decide) _ _ _ rfl ((own_empty w7).alloc (.cells #[.string (B b), .string (B f.data), .int .i64 (f.syn : Int)] 114)) ⟨w7.heap.size + 1, 0, none⟩ 1 1 [.string (B b), .string (B f.data), .int .i64 (f.syn : Int)] rfl rfl (World.news_of_block (cs := #[.string (B b), .string (B f.data), .int .i64 (f.syn : Int)]) (t := 114) (fr := (0, 0)) (new_two w7 (.cells #[] 114) (.cells #[.string (B b), .string (B f.data), .int .i64 (f.syn : Int)] 114))) (by simp [Value.oneCell']) (by unfold maxLen; omega) (by omega) (by simp; omega) ?_; intro v2 w9 hown2 hgrow2 _; have HB9 := Lib.hid (below_grownS (HBa.out.alloc HBa.out.size (.cells #[.string (B b), .string (B f.data), .int .i64 (f.syn : Int)] 114)) (by simp; omega) ((own_empty w7).alloc (.cells #[.string (B b), .string (B f.data), .int .i64 (f.syn : Int)] 114)) hgrow2); have c09 := (HW7.out.below HB9.out).cell; have f09 := blk_loose (HW7.out.below HB9.out).2 0; obtain ⟨g3, cap3, rfl, hg3, hown4⟩ := own_new (m := 1) hown2 (by omega) (by omega); have HO9 := Lib.hid hown4; clear hgrow2 hown2)
      | (refine wpList_append_own_none rfl _ _ 102 rfl w7.heap.size 114 i0 3 Tryz.underlying102 hi _ _ _ rfl hown4 rfl ?_))
    have elA : [] ++ [.string (B b), .string (B f.data), .int .i64 (f.syn : Int)] = fileCells [⟨b, f.data, f.syn⟩] := rfl
    rw [elA] at HO9
    have HW8 := Lib.hid ((HW7.out.below HB9.out).store HO9.out (by have := HW7.out.1; have := blk_lt HW7.out.2; omega))
    have HK8 := Lib.hid ((HK7.out.trans (Kp.of_below HB9.out)).set_own HW7.out.1 0 (.slice (some ⟨g3, 0, none⟩) 1 cap3))
    go_ret
    rw [HL2.out]
    exact ⟨rfl, HW8.out.at, HK8.out⟩
  · have HW7 := Lib.hid hw7
    clear hw7
    obtain ⟨cur, hg, hcs, hlc, hgp, hglo⟩ := HW7.out.blk
    clear hg hcs hgp hglo
    have HBS : Hid (bs ≤ w7.heap.size) := Lib.hid (by have := HW7.out.lo; have := blk_lt HW7.out.own; omega)
    by_cases hkc0 : k < cap
    · have hkc : (k : Int) ≤ (cap : Int) := by omega
      have hkc3 : ¬ cap = k := by omega
      have hki : (k : Int) ≤ (ld.length : Int) := by omega
      have c0 := (HW7.out.below HBa.out).cells.1
      go_wp2_with (at_builtin; first
        | (refine wpList_append_own _ rfl _ _ 102 rfl w7.heap.size 114 i0 _ 3 40 Tryz.underlying102 hi hz0 hz1 hz2 rfl (by decide) _ _ _ rfl (own_empty w7) ⟨g, 0, none⟩ k cap (fileCells (ld.take k)) rfl (by rw [fileCells_len, htk]) (MWr.news (i := 0) (HW7.out.below HBa.out) (.inr ⟨_, rfl, fileCells_take ld k⟩)) (file_one _) (by unfold maxLen; omega) (by omega) (by simp) ?_; intro v1 w8 hown1 hgrow1 _; have HB8 := Lib.hid (below_grownS HBa.out (by simp) (own_empty w7) hgrow1); have c08 := (HW7.out.below HB8.out).cells.1; have y0w8 : w8.cell? ⟨h, 0, none⟩ = some (.string (B b)) := (by simp [World.cell?, HB8.out.block h (blk_lt HX7.out), HX7.out]); have y1w8 : w8.cell? ⟨h, 1, none⟩ = some (.string (B f.data)) := (by simp [World.cell?, HB8.out.block h (blk_lt HX7.out), HX7.out]); have y2w8 : w8.cell? ⟨h, 2, none⟩ = some (.int .i64 (f.syn : Int)) := (by simp [World.cell?, HB8.out.block h (blk_lt HX7.out), HX7.out]); clear hgrow1)
        | (refine wpList_append_own _ rfl _ _ 102 rfl w7.heap.size 114 i0 _ 3 40 Tryz.underlying102 hi hz0 hz1 hz2 rfl (by decide) _ _ _ rfl (hown1.alloc _) ⟨w8.heap.size, 0, none⟩ 1 1 [.string (B b), .string (B f.data), .int .i64 (f.syn : Int)] rfl rfl (World.news_of_block (cs := #[.string (B b), .string (B f.data), .int .i64 (f.syn : Int)]) (t := 114) (fr := (0, 0)) (heap_alloc_new w8 _)) (by simp [Value.oneCell']) (by unfold maxLen; omega) (by omega) (by have := HB8.out.size; simp; omega) ?_; intro v2 w9 hown2 hgrow2 _; have HB9 := Lib.hid (below_grownS (HB8.out.alloc HB8.out.size _) (by have := HB8.out.size; simp; omega) (hown1.alloc _) hgrow2); have c09 := (HW7.out.below HB9.out).cells.1; clear hgrow2)
        | (refine wpList_append_own _ rfl _ _ 102 rfl w7.heap.size 114 i0 _ 3 40 Tryz.underlying102 hi hz0 hz1 hz2 rfl (by decide) _ _ _ rfl hown2 ⟨g, k * 3, none⟩ (ld.length - k) (cap - k) (fileCells (ld.drop k)) rfl (by rw [fileCells_len, hdk]) (MWr.news (i := k) (HW7.out.below HB9.out) (.inl (fileCells_drop ld k))) (file_one _) (by unfold maxLen; omega) (by omega) HB9.out.size ?_; intro v3 w10 hown3 hgrow3 _; have HB10 := Lib.hid (below_grownS HB9.out HB9.out.size hown2 hgrow3); have c10 := (HW7.out.below HB10.out).cells.1; have f10 := blk_loose (HW7.out.below HB10.out).own 0; obtain ⟨g3, cap3, rfl, hg3, hown4⟩ := own_new (m := ld.length + 1) hown3 (by omega) (by omega); have HO10 := Lib.hid hown4; clear hgrow3 hown3 hown4))
      have elA : [] ++ fileCells (ld.take k) ++ [.string (B b), .string (B f.data), .int .i64 (f.syn : Int)] ++ fileCells (ld.drop k) = fileCells (ld.take k ++ ⟨b, f.data, f.syn⟩ :: ld.drop k) := by
        rw [fileCells_app, List.nil_append, List.append_assoc]
        rfl
      rw [elA] at HO10
      clear elA
      have hlA : (ld.take k ++ (⟨b, f.data, f.syn⟩ : F) :: ld.drop k).length = ld.length + 1 := by rw [List.length_append, List.length_cons, htk, hdk]; omega
      generalize ld.take k ++ (⟨b, f.data, f.syn⟩ : F) :: ld.drop k = lA at HO10 hlA HL2
      rw [← hlA] at HO10 ⊢
      have HW11 := Lib.hid ((HW7.out.below HB10.out).store HO10.out HBS.out)
      have HK11 := Lib.hid ((HK7.out.trans (Kp.of_below HB10.out)).set_own HW7.out.lo 0 (.slice (some ⟨g3, 0, none⟩) lA.length cap3))
      go_ret
      rw [HL2.out]
      exact ⟨rfl, HW11.out.at, HK11.out⟩
    · have hck : k = cap := by omega
      subst hck
      have hkc : (k : Int) ≤ (k : Int) := by omega
      have hki : (k : Int) ≤ (ld.length : Int) := by omega
      have c0 := (HW7.out.below HBa.out).cells.1
      go_wp2_with (at_builtin; first
        | (refine wpList_append_own _ rfl _ _ 102 rfl w7.heap.size 114 i0 _ 3 40 Tryz.underlying102 hi hz0 hz1 hz2 rfl (by decide) _ _ _ rfl (own_empty w7) ⟨g, 0, none⟩ k k (fileCells (ld.take k)) rfl (by rw [fileCells_len, htk]) (MWr.news (i := 0) (HW7.out.below HBa.out) (.inr ⟨_, rfl, fileCells_take ld k⟩)) (file_one _) (by unfold maxLen; omega) (by omega) (by simp) ?_; intro v1 w8 hown1 hgrow1 _; have HB8 := Lib.hid (below_grownS HBa.out (by simp) (own_empty w7) hgrow1); have c08 := (HW7.out.below HB8.out).cells.1; have y0w8 : w8.cell? ⟨h, 0, none⟩ = some (.string (B b)) := (by simp [World.cell?, HB8.out.block h (blk_lt HX7.out), HX7.out]); have y1w8 : w8.cell? ⟨h, 1, none⟩ = some (.string (B f.data)) := (by simp [World.cell?, HB8.out.block h (blk_lt HX7.out), HX7.out]); have y2w8 : w8.cell? ⟨h, 2, none⟩ = some (.int .i64 (f.syn : Int)) := (by simp [World.cell?, HB8.out.block h (blk_lt HX7.out), HX7.out]); clear hgrow1)
        | (refine wpList_append_own _ rfl _ _ 102 rfl w7.heap.size 114 i0 _ 3 40 Tryz.underlying102 hi hz0 hz1 hz2 rfl (by decide) _ _ _ rfl (hown1.alloc _) ⟨w8.heap.size, 0, none⟩ 1 1 [.string (B b), .string (B f.data), .int .i64 (f.syn : Int)] rfl rfl (World.news_of_block (cs := #[.string (B b), .string (B f.data), .int .i64 (f.syn : Int)]) (t := 114) (fr := (0, 0)) (heap_alloc_new w8 _)) (by simp [Value.oneCell']) (by unfold maxLen; omega) (by omega) (by have := HB8.out.size; simp; omega) ?_; intro v2 w9 hown2 hgrow2 _; have HB9 := Lib.hid (below_grownS (HB8.out.alloc HB8.out.size _) (by have := HB8.out.size; simp; omega) (hown1.alloc _) hgrow2); have c09 := (HW7.out.below HB9.out).cells.1; clear hgrow2)
        | (refine wpList_append_own _ rfl _ _ 102 rfl w7.heap.size 114 i0 _ 3 40 Tryz.underlying102 hi hz0 hz1 hz2 rfl (by decide) _ _ _ rfl hown2 ⟨g, 0, none⟩ 0 _ [] rfl rfl (fun j u h => by simp at h) (fun u h => by cases h) (by unfold maxLen; omega) (by omega) HB9.out.size ?_; intro v3 w10 hown3 hgrow3 _; have HB10 := Lib.hid (below_grownS HB9.out HB9.out.size hown2 hgrow3); have c10 := (HW7.out.below HB10.out).cells.1; have f10 := blk_loose (HW7.out.below HB10.out).own 0; obtain ⟨g3, cap3, rfl, hg3, hown4⟩ := own_new (m := ld.length + 1) hown3 (by omega) (by omega); have HO10 := Lib.hid hown4; clear hgrow3 hown3 hown4))
      have elA : [] ++ fileCells (ld.take k) ++ [.string (B b), .string (B f.data), .int .i64 (f.syn : Int)] ++ [] = fileCells (ld.take k ++ ⟨b, f.data, f.syn⟩ :: ld.drop k) := by
        rw [fileCells_app, List.nil_append, List.append_nil, List.drop_of_length_le (by omega)]
        rfl
      rw [elA] at HO10
      clear elA
      have hlA : (ld.take k ++ (⟨b, f.data, f.syn⟩ : F) :: ld.drop k).length = ld.length + 1 := by rw [List.length_append, List.length_cons, htk, hdk]; omega
      generalize ld.take k ++ (⟨b, f.data, f.syn⟩ : F) :: ld.drop k = lA at HO10 hlA HL2
      rw [← hlA] at HO10 ⊢
      have HW11 := Lib.hid ((HW7.out.below HB10.out).store HO10.out HBS.out)
      have HK11 := Lib.hid ((HK7.out.trans (Kp.of_below HB10.out)).set_own HW7.out.lo 0 (.slice (some ⟨g3, 0, none⟩) lA.length cap3))
      go_ret
      rw [HL2.out]
      exact ⟨rfl, HW11.out.at, HK11.out⟩
end
theorem mRename_l (p : Nat) (room : Int) (l : List F) (a b : Tx) (e : Nat) (l2 : List F) (w : World) (hm : MAt bs w p room l) (hs : Sorted l) (hl : l.length ≤ 40) (hb : b.length ≤ 1000000) (H : Hid (rename a b l = (e, l2))) :
    Calls Tryz.prog 62 #[.pointer (some ⟨p, 0, none⟩), .string (B a), .string (B b)] w fun x w' => x = .returned (.int .i64 (e : Int)) ∧ MAt bs w' p room l2 ∧ Kp bs p w w' := by
  have h := H.out
  unfold rename at h
  cases hf : find a l with
  | none =>
    rw [hf] at h
    cases h
    exact mRename_none p room l a b w hm hs (by omega) hf
  | some f =>
    rw [hf] at h
    dsimp only at h
    cases hr : nameL b with
    | false =>
      rw [if_pos hr] at h
      cases h
      exact mRename_bad p room l a b w hm hs (by omega) (by rw [hf]; intro h; cases h) hb hr
    | true =>
      rw [if_neg (by rw [hr]; decide)] at h
      cases h
      exact mRename_ok p room l a b w f hm hs hl hf hb hr
end Go.Proofs.YtmfhipjceeijmaaGreatDoor.D
