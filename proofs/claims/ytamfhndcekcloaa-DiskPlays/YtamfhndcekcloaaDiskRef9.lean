/-
  Walks of the document's disk (package bucketlineref8): Rename.
-/
import Derived.Test.YtamfhndcekcloaaDiskRef8
namespace Go.Proofs.Ytamfhndcekcloaa.D
open Go.RowKit
attribute [local go_sem] ext_Bd ext_Bl ext_Bt toList_B add_B size_B get_Bt
variable {bs : Nat}

theorem put_del {f : F} : ∀ {l : List F}, Sorted l → put f (del f.name l) = put f l
  | [], _ => rfl
  | g :: l, h => by
    obtain ⟨h1, h2⟩ := List.pairwise_cons.1 h
    by_cases hlt : lt g.name f.name = true
    · have hne : ¬ g.name = f.name := fun e => by rw [e, lt_irrefl] at hlt; cases hlt
      rw [del, if_neg hne, put, if_pos hlt, put, if_pos hlt, put_del h2]
    · by_cases he : g.name = f.name
      · have hn : find f.name l = none := he ▸ find_behind h1
        rw [del, if_pos he, del_none hn, put, if_neg hlt, if_pos he, put_new h2 hn]
        have hi : idx f.name l = 0 := by
          cases l with
          | nil => rfl
          | cons y r =>
            have := h1 y (by simp)
            rw [he] at this
            rw [idx, if_neg (by
              intro h3
              have := lt_trans this h3
              rw [lt_irrefl] at this
              cases this)]
        rw [hi]
        rfl
      · rw [del_none (find_ahead (not_lt_cases hlt he) h1)]
theorem delete_snd (n : Tx) (l : List F) : (delete n l).2 = del n l := by
  unfold delete
  cases hf : find n l with
  | none => exact (del_none hf).symm
  | some f => rfl
theorem MAt.set_off {w : World} {p : Nat} {room : Int} {l : List F} {h : Nat} (hm : MAt bs w p room l) (ho : Off w p h) (hp : p ≠ h) (j : Nat) (u : Value) : MAt bs (w.setCell ⟨h, j, none⟩ u) p room l := by
  obtain ⟨hlo, v, hv, hr⟩ := hm
  refine ⟨hlo, v, by rw [set_oth hp]; exact hv, hr.1, ?_⟩
  have hne := ho v _ hv
  rcases hr.2 with h2 | ⟨g, cap, cur, rfl, hb, hg, hrest⟩
  · exact .inl h2
  · exact .inr ⟨g, cap, cur, rfl, hb, by rw [set_oth (fun e => hne (by rw [e]; rfl))]; exact hg, hrest⟩
theorem MAt.off_new {w : World} {p : Nat} {room : Int} {l : List F} (hm : MAt bs w p room l) : Off w p w.heap.size := fun v c hv => by
  obtain ⟨_, v2, hv2, hr⟩ := hm
  rw [hv] at hv2
  simp at hv2
  obtain ⟨rfl, rfl⟩ := hv2
  rcases hr.2 with ⟨rfl, _⟩ | ⟨g, cap, cur, rfl, _, hg, _⟩
  · intro h; cases h
  · intro h
    have : g = w.heap.size := Option.some.inj h
    have := blk_lt hg
    omega
theorem Kp.set_file {p h : Nat} {w w' : World} {cs : Array Value} (hk : Kp bs p w w') (hh : w'.heap[h]? = some (.cells cs 68 (0, 0))) (hlo : bs ≤ h) (j : Nat) (u : Value) : Kp bs p w (w'.setCell ⟨h, j, none⟩ u) := hk.set_row hh hlo j u
section
variable (p : Nat) (room : Int) (l : List F) (a b : Tx) (w : World)
set_option maxHeartbeats 2000000 in
set_option maxRecDepth 100000 in
theorem mRename_none (hm : MAt bs w p room l) (hs : Sorted l) (hl : l.length ≤ 1000) (hf : find a l = none) :
    Calls Try.prog 31 #[.pointer (some ⟨p, 0, none⟩), .string (B a), .string (B b)] w fun x w' => x = .returned (.int .i64 6) ∧ MAt bs w' p room l ∧ Kp bs p w w' := by
  have HM := Lib.hid hm
  have HS := Lib.hid hs
  have HI : Hid (isAt a l = false) := Lib.hid (by unfold isAt; rw [hf]; rfl)
  clear hm hs hf
  go_enter Try.func31, Try.ntmps31
  go_wp2_with fail
  refine (mFind_l p room l a _ false w HM.out HS.out hl (Lib.hid rfl) HI).mono ?_
  rintro x w1 ⟨rfl, hq⟩
  have HQ := Lib.hid hq
  clear hq
  go_wp2
  go_ret
  exact ⟨rfl, HM.out.quiet HQ.out, Kp.quiet HQ.out⟩
set_option maxHeartbeats 2000000 in
set_option maxRecDepth 100000 in
theorem mRename_bad (hm : MAt bs w p room l) (hs : Sorted l) (hl : l.length ≤ 1000) (hf : find a l ≠ none) (hb : b.length ≤ 1000000) (hr : nameL b = false) :
    Calls Try.prog 31 #[.pointer (some ⟨p, 0, none⟩), .string (B a), .string (B b)] w fun x w' => x = .returned (.int .i64 1) ∧ MAt bs w' p room l ∧ Kp bs p w w' := by
  have HM := Lib.hid hm
  have HS := Lib.hid hs
  have HN := Lib.hid hr
  have HI : Hid (isAt a l = true) := Lib.hid (by unfold isAt; cases h : find a l with | none => exact absurd h hf | some f => rfl)
  clear hm hs hf hr
  go_enter Try.func31, Try.ntmps31
  go_wp2_with fail
  refine (mFind_l p room l a _ true w HM.out HS.out hl (Lib.hid rfl) HI).mono ?_
  rintro x w1 ⟨rfl, hq⟩
  have HM1 := Lib.hid (HM.out.quiet hq)
  have HK1 := Lib.hid (Kp.quiet (bs := bs) (p := p) hq)
  clear hq HM
  go_wp2_with fail
  refine (refName_l b w1 hb).mono ?_
  rintro x w2 ⟨rfl, hb2⟩
  rw [HN.out]
  have HB := Lib.hid hb2
  clear hb2
  go_wp2
  go_ret
  exact ⟨rfl, HM1.out.below HB.out, HK1.out.trans (Kp.of_below HB.out)⟩
set_option maxHeartbeats 8000000 in
set_option maxRecDepth 100000 in
theorem mRename_ok (f : F) (hm : MAt bs w p room l) (hs : Sorted l) (hl : l.length ≤ 40) (hf : find a l = some f) (hb : b.length ≤ 1000000) (hr : nameL b = true) :
    Calls Try.prog 31 #[.pointer (some ⟨p, 0, none⟩), .string (B a), .string (B b)] w fun x w' => x = .returned (.int .i64 0) ∧ MAt bs w' p room (put ⟨b, f.data, f.syn⟩ (del a l)) ∧ Kp bs p w w' := by
  obtain ⟨i0, hi, hz0, hz1, hz2⟩ := info_parts Try.infoFile
  obtain ⟨k0, HK0⟩ : ∃ k, Hid (idx a l = k) := ⟨_, Lib.hid rfl⟩
  obtain ⟨hlt, hfe⟩ : ∃ h : k0 < l.length, l[k0] = f := by
    have := idx_of hs hf
    simp only [HK0.out] at this
    exact this
  have HI : Hid (isAt a l = true) := Lib.hid (by unfold isAt; rw [hf]; rfl)
  have HD1 : Hid (delete a l = (0, del a l)) := Lib.hid (by unfold delete; rw [hf])
  have HS1 := Lib.hid (sorted_del (n := a) hs)
  have HL1 : Hid ((del a l).length ≤ 40) := Lib.hid (by have := length_del (n := a) hs; omega)
  obtain ⟨e2, HD2⟩ : ∃ e, Hid (delete b (del a l) = (e, del b (del a l))) := ⟨(delete b (del a l)).1, Lib.hid (by rw [← delete_snd b (del a l)])⟩
  have hs2 := sorted_del (n := b) HS1.out
  have hl2 : (del b (del a l)).length ≤ 40 := by have := length_del (n := b) HS1.out; have := HL1.out; omega
  have hf2 := find_del b (del a l)
  have HP : Hid (put ⟨b, f.data, f.syn⟩ (del a l) = put ⟨b, f.data, f.syn⟩ (del b (del a l))) := Lib.hid (put_del (f := ⟨b, f.data, f.syn⟩) HS1.out).symm
  obtain ⟨ld, HLD⟩ : ∃ ld, Hid (del b (del a l) = ld) := ⟨_, Lib.hid rfl⟩
  rw [HLD.out] at HD2 hs2 hl2 hf2 HP
  clear HLD
  obtain ⟨k, HK⟩ : ∃ k, Hid (idx b ld = k) := ⟨_, Lib.hid rfl⟩
  have hkl : k ≤ ld.length := by rw [← HK.out]; exact idx_le b ld
  have HL2 : Hid (put ⟨b, f.data, f.syn⟩ (del a l) = ld.take k ++ ⟨b, f.data, f.syn⟩ :: ld.drop k) := Lib.hid (by
    rw [HP.out, put_new (f := ⟨b, f.data, f.syn⟩) hs2 hf2, HK.out])
  have HI2 : Hid (isAt b ld = false) := Lib.hid (by unfold isAt; rw [hf2]; rfl)
  have HS2 := Lib.hid hs2
  have HC := Lib.hid (fileCells_at hlt)
  rw [hfe] at HC
  obtain ⟨g0, cap0, hw0⟩ := hm.wr (by omega)
  have HM := Lib.hid hw0
  have HS := Lib.hid hs
  have HN := Lib.hid hr
  have hk1 : (k0 : Int) < (l.length : Int) := by omega
  clear hm hr hs hf hw0 hs2 hf2 HP
  go_enter Try.func31, Try.ntmps31
  go_wp2_with fail
  refine (mFind_l p room l a k0 true w HM.out.at HS.out (by omega) HK0 HI).mono ?_
  rintro x w1 ⟨rfl, hq⟩
  have HM1 := Lib.hid (HM.out.quiet hq)
  have HK1 := Lib.hid (Kp.quiet (bs := bs) (p := p) hq)
  clear hq HM
  go_wp2_with fail
  refine (refName_l b w1 hb).mono ?_
  rintro x w2 ⟨rfl, hb2⟩
  rw [HN.out]
  have HM2 := Lib.hid (HM1.out.below hb2)
  have HK2 := Lib.hid (HK1.out.trans (Kp.of_below hb2))
  clear hb2 HM1 HK1
  have c0 := HM2.out.cells.1
  have x0 : w2.cell? ⟨g0, k0 * 3, none⟩ = some (.string (B f.name)) := (HM2.out.cell (by omega)).trans HC.out.1
  have x1 : w2.cell? ⟨g0, k0 * 3 + 1, none⟩ = some (.string (B f.data)) := (HM2.out.cell (by omega)).trans HC.out.2.1
  have x2 : w2.cell? ⟨g0, k0 * 3 + 2, none⟩ = some (.int .i64 (f.syn : Int)) := (HM2.out.cell (by omega)).trans HC.out.2.2
  obtain ⟨h, HH⟩ : ∃ h, Hid (w2.heap.size = h) := ⟨_, Lib.hid rfl⟩
  go_wp2_with fail
  have HB3 := Lib.hid ((Below.refl w2.heap.size w2).alloc (Nat.le_refl _) (.cells #[.string (B f.name), .string (B f.data), .int .i64 (f.syn : Int)] 68))
  have HX3 : Hid ((w2.alloc (.cells #[.string (B f.name), .string (B f.data), .int .i64 (f.syn : Int)] 68)).heap[h]? = some (.cells #[.string (B f.name), .string (B f.data), .int .i64 (f.syn : Int)] 68 (0, 0))) := Lib.hid (by rw [← HH.out]; exact heap_alloc_new w2 _)
  have HM3 := Lib.hid (HM2.out.below HB3.out)
  have HO3 : Hid (Off (w2.alloc (.cells #[.string (B f.name), .string (B f.data), .int .i64 (f.syn : Int)] 68)) p h) := Lib.hid (by
    rw [← HH.out]
    exact HM2.out.at.off_new.same (HB3.out.block p (blk_lt HM2.out.own)))
  have HLO : Hid (bs ≤ p) := Lib.hid HM2.out.lo
  have HBH : Hid (bs ≤ h) := Lib.hid (by
    have := blk_lt HM2.out.own
    have := HH.out
    have := HM2.out.lo
    omega)
  have HPH : Hid (p ≠ h) := Lib.hid (by
    have := blk_lt HM2.out.own
    have := HH.out
    omega)
  have HK3 := Lib.hid (HK2.out.trans (Kp.of_below HB3.out))
  have hsz3 : h < (w2.alloc (.cells #[.string (B f.name), .string (B f.data), .int .i64 (f.syn : Int)] 68)).heap.size := by rw [← HH.out]; simp
  rw [HH.out]
  generalize w2.alloc (.cells #[.string (B f.name), .string (B f.data), .int .i64 (f.syn : Int)] 68) = w3 at HX3 HM3 HO3 HK3 hsz3 ⊢
  clear HB3 HM2 HK2 c0 x0 x1 x2 HC
  refine (mDelete_l p room l a 0 (del a l) w3 HM3.out.at HS.out hl HD1).mono ?_
  rintro x w4 ⟨rfl, hm4, hk4, ho4⟩
  have HM4 := Lib.hid hm4
  have HX4 := Lib.hid ((hk4.block h hsz3 (fun e => HPH.out e.symm)).trans HX3.out)
  have HO4 := Lib.hid (ho4 h hsz3 HO3.out)
  have HK4 := Lib.hid (HK3.out.trans (hk4.kp HLO.out))
  have hsz4 : h < w4.heap.size := Nat.lt_of_lt_of_le hsz3 hk4.size
  clear hm4 hk4 ho4 HM3 HX3 HO3 HK3 hsz3
  go_wp2_with fail
  refine (mDelete_l p room (del a l) b e2 ld w4 HM4.out HS1.out HL1.out HD2).mono ?_
  rintro x w5 ⟨rfl, hm5, hk5, ho5⟩
  have HM5 := Lib.hid hm5
  have HX5 := Lib.hid ((hk5.block h hsz4 (fun e => HPH.out e.symm)).trans HX4.out)
  have HO5 := Lib.hid (ho5 h hsz4 HO4.out)
  have HK5 := Lib.hid (HK4.out.trans (hk5.kp HLO.out))
  clear hm5 hk5 ho5 HM4 HX4 HO4 HK4 hsz4
  have y0 : w5.cell? ⟨h, 0, none⟩ = some (.string (B f.name)) := by simp [World.cell?, HX5.out]
  have f0 := blk_loose HX5.out 0
  have HM6 := Lib.hid (HM5.out.set_off HO5.out HPH.out 0 (.string (B b)))
  have HX6 := Lib.hid (set_blk HX5.out 0 (.string (B b)))
  have HK6 := Lib.hid (HK5.out.set_file HX5.out HBH.out 0 (.string (B b)))
  go_wp2_with fail
  generalize w5.setCell ⟨h, 0, none⟩ (.string (B b)) = w6 at HM6 HX6 HK6 ⊢
  clear y0 f0 HM5 HX5 HK5 HO5
  refine (mFind_l p room ld b k false w6 HM6.out HS2.out (by omega) HK HI2).mono ?_
  rintro x w7 ⟨rfl, hq⟩
  have HM7 := Lib.hid (HM6.out.quiet hq)
  have HX7 : Hid (w7.heap[h]? = some (.cells #[.string (B b), .string (B f.data), .int .i64 (f.syn : Int)] 68 (0, 0))) := Lib.hid (by obtain ⟨q, rfl⟩ := hq; exact HX6.out)
  have HK7 := Lib.hid (HK6.out.trans (Kp.quiet hq))
  clear hq HM6 HX6 HK6
  have htk : (ld.take k).length = k := by rw [List.length_take]; omega
  have hdk : (ld.drop k).length = ld.length - k := List.length_drop ..
  have HBa := Lib.hid ((Below.refl w7.heap.size w7).alloc (Nat.le_refl _) (.cells #[] 68))
  rcases HM7.out.two with ⟨h0, hld⟩ | ⟨g, cap, hw7⟩
  · subst hld
    have HW7 := Lib.hid h0
    clear h0
    have c0 := (HW7.out.below HBa.out).cell
    obtain rfl : k = 0 := by have := hkl; simp at this; exact this
    have y0 : (w7.alloc (.cells #[] 68)).cell? ⟨h, 0, none⟩ = some (.string (B b)) := (by simp [World.cell?, HBa.out.block h (blk_lt HX7.out), HX7.out]); have y1 : (w7.alloc (.cells #[] 68)).cell? ⟨h, 1, none⟩ = some (.string (B f.data)) := (by simp [World.cell?, HBa.out.block h (blk_lt HX7.out), HX7.out]); have y2 : (w7.alloc (.cells #[] 68)).cell? ⟨h, 2, none⟩ = some (.int .i64 (f.syn : Int)) := (by simp [World.cell?, HBa.out.block h (blk_lt HX7.out), HX7.out])
    go_wp2_with (at_builtin; first
      | (refine wpList_append_own_none rfl _ _ 58 rfl w7.heap.size 68 i0 3 Try.underlying58 hi _ _ _ rfl (own_empty w7) rfl ?_)
      | (refine wpList_append_own _ rfl _ _ 58 rfl w7.heap.size 68 i0 _ 3 40 Try.underlying58 hi hz0 hz1 hz2 rfl (by decide) _ _ _ rfl ((own_empty w7).alloc (.cells #[.string (B b), .string (B f.data), .int .i64 (f.syn : Int)] 68)) ⟨w7.heap.size + 1, 0, none⟩ 1 1 [.string (B b), .string (B f.data), .int .i64 (f.syn : Int)] rfl rfl (World.news_of_block (cs := #[.string (B b), .string (B f.data), .int .i64 (f.syn : Int)]) (t := 68) (fr := (0, 0)) (new_two w7 (.cells #[] 68) (.cells #[.string (B b), .string (B f.data), .int .i64 (f.syn : Int)] 68))) (by simp [Value.oneCell']) (by unfold maxLen; omega) (by omega) (by simp; omega) ?_; intro v2 w9 hown2 hgrow2 _; have HB9 := Lib.hid (below_grownS (HBa.out.alloc HBa.out.size (.cells #[.string (B b), .string (B f.data), .int .i64 (f.syn : Int)] 68)) (by simp; omega) ((own_empty w7).alloc (.cells #[.string (B b), .string (B f.data), .int .i64 (f.syn : Int)] 68)) hgrow2); have c09 := (HW7.out.below HB9.out).cell; have f09 := blk_loose (HW7.out.below HB9.out).2 0; obtain ⟨g3, cap3, rfl, hg3, hown4⟩ := own_new (m := 1) hown2 (by omega) (by omega); have HO9 := Lib.hid hown4; clear hgrow2 hown2)
      | (refine wpList_append_own_none rfl _ _ 58 rfl w7.heap.size 68 i0 3 Try.underlying58 hi _ _ _ rfl hown4 rfl ?_))
    have elA : [] ++ [.string (B b), .string (B f.data), .int .i64 (f.syn : Int)] = fileCells [⟨b, f.data, f.syn⟩] := rfl
    rw [elA] at HO9
    have HW8 := Lib.hid ((HW7.out.below HB9.out).store HO9.out (by have := HW7.out.1; have := blk_lt HW7.out.2; omega))
    have HK8 := Lib.hid ((HK7.out.trans (Kp.of_below HB9.out)).set_own HW7.out.1 0 (.slice (some ⟨g3, 0, none⟩) 1 cap3))
    go_ret
    rw [HL2.out]
    exact ⟨rfl, HW8.out.at, HK8.out⟩
  · have HW7 := Lib.hid hw7
    clear hw7
    obtain ⟨cur, hg, hcs, hlc, hgp, hglo⟩ := HW7.out.blk
    clear hg hcs hgp hglo
    have HBS : Hid (bs ≤ w7.heap.size) := Lib.hid (by have := HW7.out.lo; have := blk_lt HW7.out.own; omega)
    by_cases hkc0 : k < cap
    · have hkc : (k : Int) ≤ (cap : Int) := by omega
      have hkc3 : ¬ cap = k := by omega
      have hki : (k : Int) ≤ (ld.length : Int) := by omega
      have c0 := (HW7.out.below HBa.out).cells.1
      go_wp2_with (at_builtin; first
        | (refine wpList_append_own _ rfl _ _ 58 rfl w7.heap.size 68 i0 _ 3 40 Try.underlying58 hi hz0 hz1 hz2 rfl (by decide) _ _ _ rfl (own_empty w7) ⟨g, 0, none⟩ k cap (fileCells (ld.take k)) rfl (by rw [fileCells_len, htk]) (MWr.news (i := 0) (HW7.out.below HBa.out) (.inr ⟨_, rfl, fileCells_take ld k⟩)) (file_one _) (by unfold maxLen; omega) (by omega) (by simp) ?_; intro v1 w8 hown1 hgrow1 _; have HB8 := Lib.hid (below_grownS HBa.out (by simp) (own_empty w7) hgrow1); have c08 := (HW7.out.below HB8.out).cells.1; have y0w8 : w8.cell? ⟨h, 0, none⟩ = some (.string (B b)) := (by simp [World.cell?, HB8.out.block h (blk_lt HX7.out), HX7.out]); have y1w8 : w8.cell? ⟨h, 1, none⟩ = some (.string (B f.data)) := (by simp [World.cell?, HB8.out.block h (blk_lt HX7.out), HX7.out]); have y2w8 : w8.cell? ⟨h, 2, none⟩ = some (.int .i64 (f.syn : Int)) := (by simp [World.cell?, HB8.out.block h (blk_lt HX7.out), HX7.out]); clear hgrow1)
        | (refine wpList_append_own _ rfl _ _ 58 rfl w7.heap.size 68 i0 _ 3 40 Try.underlying58 hi hz0 hz1 hz2 rfl (by decide) _ _ _ rfl (hown1.alloc _) ⟨w8.heap.size, 0, none⟩ 1 1 [.string (B b), .string (B f.data), .int .i64 (f.syn : Int)] rfl rfl (World.news_of_block (cs := #[.string (B b), .string (B f.data), .int .i64 (f.syn : Int)]) (t := 68) (fr := (0, 0)) (heap_alloc_new w8 _)) (by simp [Value.oneCell']) (by unfold maxLen; omega) (by omega) (by have := HB8.out.size; simp; omega) ?_; intro v2 w9 hown2 hgrow2 _; have HB9 := Lib.hid (below_grownS (HB8.out.alloc HB8.out.size _) (by have := HB8.out.size; simp; omega) (hown1.alloc _) hgrow2); have c09 := (HW7.out.below HB9.out).cells.1; clear hgrow2)
        | (refine wpList_append_own _ rfl _ _ 58 rfl w7.heap.size 68 i0 _ 3 40 Try.underlying58 hi hz0 hz1 hz2 rfl (by decide) _ _ _ rfl hown2 ⟨g, k * 3, none⟩ (ld.length - k) (cap - k) (fileCells (ld.drop k)) rfl (by rw [fileCells_len, hdk]) (MWr.news (i := k) (HW7.out.below HB9.out) (.inl (fileCells_drop ld k))) (file_one _) (by unfold maxLen; omega) (by omega) HB9.out.size ?_; intro v3 w10 hown3 hgrow3 _; have HB10 := Lib.hid (below_grownS HB9.out HB9.out.size hown2 hgrow3); have c10 := (HW7.out.below HB10.out).cells.1; have f10 := blk_loose (HW7.out.below HB10.out).own 0; obtain ⟨g3, cap3, rfl, hg3, hown4⟩ := own_new (m := ld.length + 1) hown3 (by omega) (by omega); have HO10 := Lib.hid hown4; clear hgrow3 hown3 hown4))
      have elA : [] ++ fileCells (ld.take k) ++ [.string (B b), .string (B f.data), .int .i64 (f.syn : Int)] ++ fileCells (ld.drop k) = fileCells (ld.take k ++ ⟨b, f.data, f.syn⟩ :: ld.drop k) := by
        rw [fileCells_app, List.nil_append, List.append_assoc]
        rfl
      rw [elA] at HO10
      clear elA
      have hlA : (ld.take k ++ (⟨b, f.data, f.syn⟩ : F) :: ld.drop k).length = ld.length + 1 := by rw [List.length_append, List.length_cons, htk, hdk]; omega
      generalize ld.take k ++ (⟨b, f.data, f.syn⟩ : F) :: ld.drop k = lA at HO10 hlA HL2
      rw [← hlA] at HO10 ⊢
      have HW11 := Lib.hid ((HW7.out.below HB10.out).store HO10.out HBS.out)
      have HK11 := Lib.hid ((HK7.out.trans (Kp.of_below HB10.out)).set_own HW7.out.lo 0 (.slice (some ⟨g3, 0, none⟩) lA.length cap3))
      go_ret
      rw [HL2.out]
      exact ⟨rfl, HW11.out.at, HK11.out⟩
    · have hck : k = cap := by omega
      subst hck
      have hkc : (k : Int) ≤ (k : Int) := by omega
      have hki : (k : Int) ≤ (ld.length : Int) := by omega
      have c0 := (HW7.out.below HBa.out).cells.1
      go_wp2_with (at_builtin; first
        | (refine wpList_append_own _ rfl _ _ 58 rfl w7.heap.size 68 i0 _ 3 40 Try.underlying58 hi hz0 hz1 hz2 rfl (by decide) _ _ _ rfl (own_empty w7) ⟨g, 0, none⟩ k k (fileCells (ld.take k)) rfl (by rw [fileCells_len, htk]) (MWr.news (i := 0) (HW7.out.below HBa.out) (.inr ⟨_, rfl, fileCells_take ld k⟩)) (file_one _) (by unfold maxLen; omega) (by omega) (by simp) ?_; intro v1 w8 hown1 hgrow1 _; have HB8 := Lib.hid (below_grownS HBa.out (by simp) (own_empty w7) hgrow1); have c08 := (HW7.out.below HB8.out).cells.1; have y0w8 : w8.cell? ⟨h, 0, none⟩ = some (.string (B b)) := (by simp [World.cell?, HB8.out.block h (blk_lt HX7.out), HX7.out]); have y1w8 : w8.cell? ⟨h, 1, none⟩ = some (.string (B f.data)) := (by simp [World.cell?, HB8.out.block h (blk_lt HX7.out), HX7.out]); have y2w8 : w8.cell? ⟨h, 2, none⟩ = some (.int .i64 (f.syn : Int)) := (by simp [World.cell?, HB8.out.block h (blk_lt HX7.out), HX7.out]); clear hgrow1)
        | (refine wpList_append_own _ rfl _ _ 58 rfl w7.heap.size 68 i0 _ 3 40 Try.underlying58 hi hz0 hz1 hz2 rfl (by decide) _ _ _ rfl (hown1.alloc _) ⟨w8.heap.size, 0, none⟩ 1 1 [.string (B b), .string (B f.data), .int .i64 (f.syn : Int)] rfl rfl (World.news_of_block (cs := #[.string (B b), .string (B f.data), .int .i64 (f.syn : Int)]) (t := 68) (fr := (0, 0)) (heap_alloc_new w8 _)) (by simp [Value.oneCell']) (by unfold maxLen; omega) (by omega) (by have := HB8.out.size; simp; omega) ?_; intro v2 w9 hown2 hgrow2 _; have HB9 := Lib.hid (below_grownS (HB8.out.alloc HB8.out.size _) (by have := HB8.out.size; simp; omega) (hown1.alloc _) hgrow2); have c09 := (HW7.out.below HB9.out).cells.1; clear hgrow2)
        | (refine wpList_append_own _ rfl _ _ 58 rfl w7.heap.size 68 i0 _ 3 40 Try.underlying58 hi hz0 hz1 hz2 rfl (by decide) _ _ _ rfl hown2 ⟨g, 0, none⟩ 0 _ [] rfl rfl (fun j u h => by simp at h) (fun u h => by cases h) (by unfold maxLen; omega) (by omega) HB9.out.size ?_; intro v3 w10 hown3 hgrow3 _; have HB10 := Lib.hid (below_grownS HB9.out HB9.out.size hown2 hgrow3); have c10 := (HW7.out.below HB10.out).cells.1; have f10 := blk_loose (HW7.out.below HB10.out).own 0; obtain ⟨g3, cap3, rfl, hg3, hown4⟩ := own_new (m := ld.length + 1) hown3 (by omega) (by omega); have HO10 := Lib.hid hown4; clear hgrow3 hown3 hown4))
      have elA : [] ++ fileCells (ld.take k) ++ [.string (B b), .string (B f.data), .int .i64 (f.syn : Int)] ++ [] = fileCells (ld.take k ++ ⟨b, f.data, f.syn⟩ :: ld.drop k) := by
        rw [fileCells_app, List.nil_append, List.append_nil, List.drop_of_length_le (by omega)]
        rfl
      rw [elA] at HO10
      clear elA
      have hlA : (ld.take k ++ (⟨b, f.data, f.syn⟩ : F) :: ld.drop k).length = ld.length + 1 := by rw [List.length_append, List.length_cons, htk, hdk]; omega
      generalize ld.take k ++ (⟨b, f.data, f.syn⟩ : F) :: ld.drop k = lA at HO10 hlA HL2
      rw [← hlA] at HO10 ⊢
      have HW11 := Lib.hid ((HW7.out.below HB10.out).store HO10.out HBS.out)
      have HK11 := Lib.hid ((HK7.out.trans (Kp.of_below HB10.out)).set_own HW7.out.lo 0 (.slice (some ⟨g3, 0, none⟩) lA.length cap3))
      go_ret
      rw [HL2.out]
      exact ⟨rfl, HW11.out.at, HK11.out⟩
end
theorem mRename_l (p : Nat) (room : Int) (l : List F) (a b : Tx) (e : Nat) (l2 : List F) (w : World) (hm : MAt bs w p room l) (hs : Sorted l) (hl : l.length ≤ 40) (hb : b.length ≤ 1000000) (H : Hid (rename a b l = (e, l2))) :
    Calls Try.prog 31 #[.pointer (some ⟨p, 0, none⟩), .string (B a), .string (B b)] w fun x w' => x = .returned (.int .i64 (e : Int)) ∧ MAt bs w' p room l2 ∧ Kp bs p w w' := by
  have h := H.out
  unfold rename at h
  cases hf : find a l with
  | none =>
    rw [hf] at h
    cases h
    exact mRename_none p room l a b w hm hs (by omega) hf
  | some f =>
    rw [hf] at h
    dsimp only at h
    cases hr : nameL b with
    | false =>
      rw [if_pos hr] at h
      cases h
      exact mRename_bad p room l a b w hm hs (by omega) (by rw [hf]; intro h; cases h) hb hr
    | true =>
      rw [if_neg (by rw [hr]; decide)] at h
      cases h
      exact mRename_ok p room l a b w f hm hs hl hf hb hr
end Go.Proofs.Ytamfhndcekcloaa.D
