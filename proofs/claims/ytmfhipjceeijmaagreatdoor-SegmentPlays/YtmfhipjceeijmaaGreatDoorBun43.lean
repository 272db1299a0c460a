/-
  Own texts, joined: SegGoes2
-/
import Derived.Test.YtmfhipjceeijmaaGreatDoorBun41
import Derived.Test.YtmfhipjceeijmaaGreatDoorBun35
import Derived.Test.YtmfhipjceeijmaaGreatDoorBun31

/-
  Chapter 9's helper goes, over a disk and the document's side by side.
-/
namespace Go.Proofs.YtmfhipjceeijmaaGreatDoor.G
open Go.RowKit
open D (dP MAt F)
attribute [local go_sem] ext_Bd ext_Bl ext_Bt toList_B add_B size_B get_Bt

/-- Entries with places that go on. -/
def onL : Int → List EV → List EV
  | _, [] => []
  | q, x :: xs => ((⟨q, 3, x.1.b⟩ : R.En), x.2) :: onL (q + 1) xs
theorem onL_len : ∀ (q : Int) (xs : List EV), (onL q xs).length = xs.length
  | _, [] => rfl
  | q, x :: xs => by rw [onL, List.length_cons, onL_len, List.length_cons]
theorem onL_snoc : ∀ (q : Int) (xs : List EV) (x : EV), onL q (xs ++ [x]) = onL q xs ++ [((⟨q + xs.length, 3, x.1.b⟩ : R.En), x.2)]
  | q, [], x => by simp [onL]
  | q, y :: xs, x => by
    have e : q + 1 + (xs.length : Int) = q + ((y :: xs).length : Int) := by simp only [List.length_cons]; omega
    rw [List.cons_append, onL, onL_snoc (q + 1) xs x, onL, List.cons_append, e]
theorem onL_mem : ∀ {q : Int} {xs : List EV} {y : EV}, y ∈ onL q xs → ∃ x ∈ xs, y.1.b = x.1.b ∧ y.2 = x.2 ∧ q ≤ y.1.pos ∧ y.1.pos ≤ q + xs.length
  | _, [], _, h => by cases h
  | q, x :: xs, y, h => by
    rw [onL] at h
    rcases List.mem_cons.1 h with rfl | h
    · exact ⟨x, List.mem_cons_self, rfl, rfl, Int.le_refl _, by simp only [List.length_cons]; omega⟩
    · obtain ⟨z, hz, h1, h2, h3, h4⟩ := onL_mem h
      exact ⟨z, List.mem_cons_of_mem _ hz, h1, h2, by omega, by simp only [List.length_cons]; omega⟩
/-- Where a call of goes stands behind its first part: the entries that are added. -/
structure OnAt (C : D.DC) (w0 w : World) (g2 g3 p mp room : Nat) (op n m : Int) (vl : Value) (t : Tx) (vk : Value) (l : List F) (S : Nat → Prop) (wx : World) (v2 : Value) (xs2 : List EV) : Prop where
  psa : PSA C w0 p mp room wx l S
  qb : QB g2 g3 p mp op n m vl t vk wx
  row : ∀ w', D.But S wx w' → ReadsR w' v2 xs2
  bel : Below w.heap.size w wx
  len : xs2.length ≤ 40
  light : ∀ x ∈ xs2, R.Light x.1.b
theorem but_refl (S : Nat → Prop) (w : World) : D.But S w w := ⟨rfl, rfl, rfl, Nat.le_refl _, fun _ _ _ => rfl⟩
theorem but_below {S : Nat → Prop} {a b c : World} (h : Below a.heap.size a b) (k : D.But S b c) : D.But S a c :=
  ⟨k.os.trans h.os, k.tape.trans h.tape, k.output.trans h.output, Nat.le_trans h.size k.size, fun q hq hs => (k.block q (Nat.lt_of_lt_of_le hq h.size) hs).trans (h.block q hq)⟩
theorem OnAt.below {C : D.DC} {w0 w : World} {g2 g3 p mp room : Nat} {op n m : Int} {vl : Value} {t : Tx} {vk : Value} {l : List F} {S : Nat → Prop} {wx wy : World} {v2 : Value} {xs2 : List EV} (h : OnAt C w0 w g2 g3 p mp room op n m vl t vk l S wx v2 xs2) (hb : Below wx.heap.size wx wy) : OnAt C w0 w g2 g3 p mp room op n m vl t vk l S wy v2 xs2 :=
  ⟨h.psa.below hb, h.qb.below hb, fun w' hw => h.row w' (but_below hb hw), belowT h.bel hb h.bel.size, h.len, h.light⟩
theorem bel_drew (w : World) : Below w.heap.size w w.drew := ⟨rfl, rfl, rfl, Nat.le_refl _, fun _ _ => rfl⟩
set_option maxHeartbeats 16000000 in
set_option maxRecDepth 100000 in
theorem goes9_l {C : D.DC} (Z : SC C) {w0 : World} (p mp room : Nat) (op n m : Int) (xs : List EV) (la : Option Addr) (lc : Nat) (text : Tx) (keep : List Int) (ka : Option Addr) (kc : Nat) (w : World) (l : List F) (S : Nat → Prop) (h : PSA C w0 p mp room w l S) (hro : room ≤ 6000) (hop : i64B op) (hn : i64B n) (hm : i64B m) (hs : ReadsR w0 (.slice la xs.length lc) xs) (hk : D.ReadsI w0 (.slice ka keep.length kc) keep) (hla : LightAll xs) (htl : text.length ≤ 1000) (hkl : keep.length ≤ 30) :
    Calls Tryz.prog 8 #[.agg #[dP p, dP mp], .agg #[.int .i64 op, .int .i64 n, .int .i64 m, .slice la xs.length lc, .string (B text), .slice ka keep.length kc]] w fun x w' => x = .returned (.bool true) ∧ ∃ l2 S2, PSA C w0 p mp room w' l2 S2 ∧ Rest S mp S2 w w' := by
  obtain ⟨i0, hi, hz0, hz1, hz2⟩ := info_parts Tryz.infoEn
  obtain ⟨kn, hkn⟩ : ∃ kn, pickN n 3 = kn := ⟨_, rfl⟩
  obtain ⟨kd, hkd⟩ : ∃ kd, pickN op 7 = kd := ⟨_, rfl⟩
  have hkn3 : kn < 3 := by rw [← hkn]; exact pickN_lt _ (by omega)
  have hkd7 : kd < 7 := by rw [← hkd]; exact pickN_lt _ (by omega)
  have HKN := Lib.hid hkn
  have HKD := Lib.hid hkd
  have HS := Lib.hid hs
  have HK := Lib.hid hk
  have HLA := Lib.hid hla
  have hxl : xs.length ≤ 40 := hla.1
  have hB1 := (Below.refl w.heap.size w).alloc (Nat.le_refl _) (.cells #[dP p, dP mp] 28)
  have hB2 := (Below.refl (w.alloc (.cells #[dP p, dP mp] 28)).heap.size (w.alloc (.cells #[dP p, dP mp] 28))).alloc (Nat.le_refl _) (.cells #[.int .i64 op, .int .i64 n, .int .i64 m, .slice la xs.length lc, .string (B text), .slice ka keep.length kc] 36)
  have HPS := Lib.hid ((h.below hB1).below hB2)
  have HBW := Lib.hid (hB1.trans (hB2.mono hB1.size))
  have HQB : Hid (QB w.heap.size (w.heap.size + 1) p mp op n m (.slice la xs.length lc) text (.slice ka keep.length kc) ((w.alloc (.cells #[dP p, dP mp] 28)).alloc (.cells #[.int .i64 op, .int .i64 n, .int .i64 m, .slice la xs.length lc, .string (B text), .slice ka keep.length kc] 36))) := Lib.hid ⟨by
    rw [Below.heap_alloc _ _ _ (by simp)]
    exact World.alloc_heap_new w _, by
    have := World.alloc_heap_new (w.alloc (.cells #[dP p, dP mp] 28)) (.cells #[.int .i64 op, .int .i64 n, .int .i64 m, .slice la xs.length lc, .string (B text), .slice ka keep.length kc] 36)
    rwa [World.size_alloc] at this⟩
  have HN2 : Hid (¬ S w.heap.size ∧ ¬ S (w.heap.size + 1)) := Lib.hid ⟨fun h2 => by have := (C.low h.at_ h2).2; omega, fun h2 => by have := (C.low h.at_ h2).2; omega⟩
  have HNM : Hid (w.heap.size ≠ mp ∧ w.heap.size + 1 ≠ mp) := Lib.hid (by have := MAt_lt h.mat; omega)
  have HSL : Hid (∀ k, S k → k < w.heap.size) := Lib.hid fun k hk => (C.low h.at_ hk).2
  clear h hs hk hkn hkd hB1 hB2 hla
  go_enter Tryz.func8, Tryz.ntmps8
  go_upto_region 1 with (fail)
  generalize (w.alloc (.cells #[dP p, dP mp] 28)).alloc (.cells #[.int .i64 op, .int .i64 n, .int .i64 m, .slice la xs.length lc, .string (B text), .slice ka keep.length kc] 36) = W at *
  obtain ⟨g3, hg3e⟩ : ∃ g3, w.heap.size + 1 = g3 := ⟨_, rfl⟩
  rw [hg3e] at HQB HN2 HNM
  rw [hg3e]
  generalize hg2e : w.heap.size = g2 at *
  have HG2 := Lib.hid hg2e
  clear hg2e hg3e
  have y1 := HQB.out.c1
  have y3 := HQB.out.q8.2.2.2.1
  go_wp2_with fail
  refine (pick9_l n 3 kn W hn (by omega) (by omega) HKN).mono ?_
  rintro x W5 ⟨rfl, rfl⟩
  obtain ⟨k, hk, hk1, hk3⟩ : ∃ k : Nat, (1 : Int) + (kn : Int) = (k : Int) ∧ 1 ≤ k ∧ k ≤ 3 := ⟨kn + 1, by omega, by omega, by omega⟩
  have HK1 := Lib.hid hk
  have hkn9 : (kn : Int) < 3 := by omega
  have hkn8 : (0 : Int) ≤ (kn : Int) := by omega
  clear hk
  obtain ⟨nm, HNE⟩ : ∃ nm, Hid (nameS (k : Int) = nm) := ⟨_, Lib.hid rfl⟩
  obtain ⟨e1, f, es, t, HL⟩ : ∃ e1 f es t, Hid (loadD nm l = (e1, f, es, t)) := ⟨_, _, _, _, Lib.hid rfl⟩
  have HBD := Lib.hid (loadD_bd HPS.out.inv HL.out)
  have y4 := HQB.out.q8.2.1
  go_wp2_with fail
  rw [HK1.out]
  refine (rLoad_l (k : Int) e1 f es t W5 HPS.out.mat HPS.out.inv hro (by rw [HNE.out]; exact HL.out)).mono ?_
  rintro x w1 ⟨⟨v1, ys, rfl, hens, hr1⟩, hb1⟩
  obtain ⟨ya, yc, rfl, hyc, -⟩ := id hr1
  have hal : Below w1.heap.size w1 (w1.alloc (.cells #[.int .i64 (f : Int), .slice ya ys.length yc, .bool t] 42)) := (Below.refl _ w1).alloc (Nat.le_refl _) _
  have HNB := Lib.hid (World.alloc_heap_new w1 (.cells #[.int .i64 (f : Int), .slice ya ys.length yc, .bool t] 42))
  have hf2 : f ≤ 274877906944 := HBD.out.2.1
  have hyl : ys.length ≤ 900 := by have := HBD.out.2.2; rw [← hens, ensOf_len] at this; omega
  have hbl := hb1.trans (hal.mono hb1.size)
  have HON : Hid (OnAt C w0 w g2 g3 p mp room op n m (.slice la xs.length lc) text (.slice ka keep.length kc) l S (w1.alloc (.cells #[.int .i64 (f : Int), .slice ya ys.length yc, .bool t] 42)) (.slice la xs.length lc) xs) := Lib.hid
    ⟨HPS.out.below hbl, HQB.out.below hbl, fun w' hw => readsR_below HS.out (but_low (HPS.out.below hbl).bel hw HPS.out.lo), HG2.out ▸ (belowT (HG2.out.symm ▸ HBW.out) hbl (HG2.out.symm ▸ HBW.out.size)), HLA.out.1, HLA.out.2⟩
  clear hr1 hb1 hal hens y1 y3 y4 hbl HPS HQB HBW HL HBD
  obtain ⟨bb, HBB⟩ : ∃ bb, Hid ((e1 = 0 ∧ bb = (Int.tmod m 3 == 0)) ∨ (e1 ≠ 0 ∧ bb = false)) := by
    by_cases he : e1 = 0
    · exact ⟨_, Lib.hid (.inl ⟨he, rfl⟩)⟩
    · exact ⟨_, Lib.hid (.inr ⟨he, rfl⟩)⟩
  go_upto_region 4 with (fail)
  generalize w1.alloc (.cells #[.int .i64 (f : Int), .slice ya ys.length yc, .bool t] 42) = W6 at *
  generalize w1.heap.size = gs at *
  have z2 := HON.out.qb.q8.2.2.1
  go_cut [32] (fun x wx => x = .bool bb ∧ W6 = wx)
  case first =>
    rcases HBB.out with ⟨rfl, rfl⟩ | ⟨he, rfl⟩
    · go_wp2
      go_meet
      exact ⟨rfl, rfl⟩
    · have hei : ((e1 : Int) == 0) = false := beq_eq_false_iff_ne.2 (by omega)
      have hei2 : ¬ (e1 : Int) = 0 := by omega
      go_wp2
      go_meet
      exact ⟨rfl, rfl⟩
  case rest =>
  obtain ⟨rfl, rfl⟩ := hcut
  clear HBB
  go_upto_if 32 with (fail)
  go_cut [6] (fun x wx => ∃ a2 c2 xs2, x = .slice a2 xs2.length c2 ∧ Hid (OnAt C w0 w g2 g3 p mp room op n m (.slice la xs.length lc) text (.slice ka keep.length kc) l S wx (.slice a2 xs2.length c2) xs2))
  case first =>
    cases bb
    · go_wp2
      go_meet
      exact ⟨_, _, _, rfl, HON⟩
    · go_wp2
      go_loopw [9, 10] (fun v i wr => ∃ j : Nat, i = .int .i64 (j : Int) ∧ j ≤ xs.length ∧ wr.ownsRow W6.heap.size 53 7 v j (enCells (onL ((f : Int) + (ys.length : Int)) (xs.take j))) ∧ Hid (Below W6.heap.size W6 wr)) (fun _ i _ => xs.length - (intOf i).toNat)
      case atStart => exact ⟨0, rfl, Nat.zero_le _, World.ownsRow_nil _ _ _ _, Lib.hid (Below.refl _ _)⟩
      case round =>
        obtain ⟨j, rfl, hj, hown, HB⟩ := hrel
        obtain ⟨va, vc, rfl⟩ := own_sl hown
        have y3 := below_keeps HB.out _ _ HON.out.qb.q8.2.2.2.1
        by_cases hlt : j < xs.length
        · have hi1 : (j : Int) < (xs.length : Int) := by omega
          have HT := Lib.hid (List.take_succ_eq_append_getElem hlt)
          obtain ⟨la2, lc2, hv, -, -, hx⟩ := id HS.out
          cases hv
          obtain ⟨hre, hps, b, off, rfl, h7⟩ := hx j hlt
          have HBW0 : Hid (Below w0.heap.size w0 wr) := Lib.hid (belowT HON.out.psa.bel HB.out HON.out.psa.bel.size)
          have h8 := h7.keep (below_keeps HBW0.out)
          clear h7 hx hps
          generalize xs[j] = pe at *
          obtain ⟨⟨pos, ep, ⟨st, ex, se, sq, evs⟩⟩, u⟩ := pe
          dsimp only at h8 hre
          obtain ⟨ua, uc, rfl, -⟩ := hre
          obtain ⟨c0, c1, c3, c4, c5, c6, c7⟩ := h8
          dsimp only at c0 c1 c3 c4 c5 c6 c7
          have z0 := below_keeps HB.out _ _ (block_cell HNB.out 0)
          have z1 := below_keeps HB.out _ _ (block_cell HNB.out 1)
          simp at z0 z1
          have HNX : Hid (enCells (onL ((f : Int) + (ys.length : Int)) (xs.take (j + 1))) = enCells (onL ((f : Int) + (ys.length : Int)) (xs.take j)) ++ [.int .i64 ((f : Int) + (ys.length : Int) + (j : Int)), .int .i64 3, .string (B st), .int .i64 ex, .int .i64 se, .int .i64 sq, .slice ua evs.length uc]) := Lib.hid (by
            rw [HT.out, onL_snoc, enCells_append, List.length_take, Nat.min_eq_left hj]
            rfl)
          have hne : (Value.slice va j vc).ownBlock ≠ some wr.heap.size := fun e => by have := (hown.lt _ e).2; omega
          go_upto_region 10 with (fail)
          have hal1 : Below wr.heap.size wr (wr.alloc (.cells #[.int .i64 pos, .int .i64 ep, .string (B st), .int .i64 ex, .int .i64 se, .int .i64 sq, .slice ua evs.length uc] 53)) := (Below.refl _ wr).alloc (Nat.le_refl _) _
          have HVB := Lib.hid (HB.out.alloc HB.out.size (.cells #[.int .i64 pos, .int .i64 ep, .string (B st), .int .i64 ex, .int .i64 se, .int .i64 sq, .slice ua evs.length uc] 53))
          have HVO := Lib.hid (hown.alloc (.cells #[.int .i64 pos, .int .i64 ep, .string (B st), .int .i64 ex, .int .i64 se, .int .i64 sq, .slice ua evs.length uc] 53))
          have HVX := Lib.hid (World.alloc_heap_new wr (.cells #[.int .i64 pos, .int .i64 ep, .string (B st), .int .i64 ex, .int .i64 se, .int .i64 sq, .slice ua evs.length uc] 53))
          have HNE := Lib.hid hne
          have HGX := Lib.hid HB.out.size
          have t0 := below_keeps hal1 _ _ z0
          have t1 := below_keeps hal1 _ _ z1
          clear hne HT hown y3 z0 z1 c0 c1 c3 c4 c5 c6 c7 HB HBW0 hal1
          generalize wr.alloc (.cells #[.int .i64 pos, .int .i64 ep, .string (B st), .int .i64 ex, .int .i64 se, .int .i64 sq, .slice ua evs.length uc] 53) = V1 at *
          generalize wr.heap.size = gx at *
          have l0 := block_loose HVX.out 0
          have l1 := block_loose HVX.out 1
          have m0 := block_cell HVX.out 0
          have m1 := block_cell HVX.out 1
          simp at m0 m1
          have z0 := t0
          have z1 := t1
          clear t0 t1
          go_upto_region 12 with (fail)
          have HXH : Hid (((V1.setCell ⟨gx, 0, none⟩ (.int .i64 ((f : Int) + (ys.length : Int) + (j : Int)))).setCell ⟨gx, 1, none⟩ (.int .i64 3)).heap[gx]? = some (.cells #[.int .i64 ((f : Int) + (ys.length : Int) + (j : Int)), .int .i64 3, .string (B st), .int .i64 ex, .int .i64 se, .int .i64 sq, .slice ua evs.length uc] 53 (0, 0))) := Lib.hid (set_block (set_block HVX.out 0 _) 1 _)
          have HXB : Hid (Below W6.heap.size W6 ((V1.setCell ⟨gx, 0, none⟩ (.int .i64 ((f : Int) + (ys.length : Int) + (j : Int)))).setCell ⟨gx, 1, none⟩ (.int .i64 3))) := Lib.hid ((HVB.out.setCell (p := ⟨gx, 0, none⟩) HGX.out _).setCell (p := ⟨gx, 1, none⟩) HGX.out _)
          have HXO : Hid (((V1.setCell ⟨gx, 0, none⟩ (.int .i64 ((f : Int) + (ys.length : Int) + (j : Int)))).setCell ⟨gx, 1, none⟩ (.int .i64 3)).ownsRow W6.heap.size 53 7 (.slice va j vc) j (enCells (onL ((f : Int) + (ys.length : Int)) (xs.take j)))) := Lib.hid ((HVO.out.kept (Lib.grownBy_setCell _ gx 0 _) (.inr HNE.out)).kept (Lib.grownBy_setCell _ gx 1 _) (.inr HNE.out))
          generalize ((V1.setCell ⟨gx, 0, none⟩ (.int .i64 ((f : Int) + (ys.length : Int) + (j : Int)))).setCell ⟨gx, 1, none⟩ (.int .i64 3)) = W2 at *
          clear z0 z1 l0 l1 m0 m1 HVB HVO HVX HNE HGX
          have x0 := block_cell HXH.out 0
          have x1 := block_cell HXH.out 1
          have x2 := block_cell HXH.out 2
          have x3 := block_cell HXH.out 3
          have x4 := block_cell HXH.out 4
          have x5 := block_cell HXH.out 5
          have x6 := block_cell HXH.out 6
          simp at x0 x1 x2 x3 x4 x5 x6
          go_wp2_with (at_builtin; go_loud (refine wpList_append_own _ rfl _ _ 33 rfl W6.heap.size 53 i0 _ 7 80 Tryz.underlying33 hi hz0 hz1 hz2 rfl (by decide) _ _ _ rfl (HXO.out.alloc _) ⟨W2.heap.size, 0, none⟩ 1 1 [.int .i64 ((f : Int) + (ys.length : Int) + (j : Int)), .int .i64 3, .string (B st), .int .i64 ex, .int .i64 se, .int .i64 sq, .slice ua evs.length uc] rfl rfl (World.news_of_block (cs := #[.int .i64 ((f : Int) + (ys.length : Int) + (j : Int)), .int .i64 3, .string (B st), .int .i64 ex, .int .i64 se, .int .i64 sq, .slice ua evs.length uc]) (t := 53) (fr := (0, 0)) (World.alloc_heap_new W2 _)) (by simp [Value.oneCell']) (by unfold maxLen; omega) (by omega) (by have := HXB.out.size; simp; omega) ?_; intro v' w3 hown3 hgrow3 _))
          trace_state
          have HB3 := Lib.hid (grown_fresh (HXB.out.alloc HXB.out.size _) hgrow3 (fun k hk => (HXO.out.lt k hk).1))
          clear hgrow3
          go_wp2
          go_roundw
          case rel => exact ⟨j + 1, by go_num, by omega, by rw [HNX.out]; exact hown3, HB3⟩
          case measure => simp [intOf]; omega
        · have hi1 : ¬ (j : Int) < (xs.length : Int) := by omega
          have hje : j = xs.length := by omega
          have HON3 := Lib.hid (HON.out.below HB.out)
          have hown2 : wr.ownsRow W6.heap.size 53 7 (.slice va (onL ((f : Int) + (ys.length : Int)) xs).length vc) (onL ((f : Int) + (ys.length : Int)) xs).length (enCells (onL ((f : Int) + (ys.length : Int)) xs)) := by
            rw [onL_len]
            rw [hje, List.take_length] at hown
            exact hown
          have hlo : ∀ k, W6.heap.size ≤ k → ¬ S k := fun k hk hs => by have := HSL.out k hs; have := HON.out.bel.size; have := HG2.out; omega
          have HF : Hid (OnAt C w0 w g2 g3 p mp room op n m (.slice la xs.length lc) text (.slice ka keep.length kc) l S wr (.slice va (onL ((f : Int) + (ys.length : Int)) xs).length vc) (onL ((f : Int) + (ys.length : Int)) xs)) := Lib.hid
            ⟨HON3.out.psa, HON3.out.qb, fun w' hw => readsR_own (base := W6.heap.size) (own_but hown2 hw hlo) (fun y hy => by
              obtain ⟨x, hx, h1, h2, h3, h4⟩ := onL_mem hy
              obtain ⟨i, hi2, rfl⟩ := List.mem_iff_getElem.1 hx
              obtain ⟨_, _, _, _, _, hx2⟩ := HS.out
              have h5 := readsE_below (hx2 i hi2).1 (but_low HON3.out.psa.bel hw HON3.out.psa.lo)
              rw [h1, h2]
              exact ⟨h5, by unfold i64B; omega⟩), HON3.out.bel, by rw [onL_len]; omega, fun y hy => by
              obtain ⟨x, hx, h1, _⟩ := onL_mem hy
              rw [h1]
              exact HLA.out.2 x hx⟩
          have hl9 : (j : Int) = (((onL ((f : Int) + (ys.length : Int)) xs).length : Nat) : Int) := by rw [onL_len]; omega
          have hl8 : (Value.slice va j vc) = .slice va (onL ((f : Int) + (ys.length : Int)) xs).length vc := by rw [onL_len, hje]
          have HL8 := Lib.hid hl8
          clear hown hown2 hl9 hl8 hlo hje
          go_wp2
          go_meet
          exact ⟨_, _, _, HL8.out, HF⟩
  case rest =>
  obtain ⟨a2, c2, xs2, rfl, HON2⟩ := hcut
  clear HON z2 HNB
  have hro2 : room ≤ 1073741824 := by omega
  have hro3 : room ≤ 100000000 := by omega
  have y0 := HON2.out.qb.c0
  go_wp2_with fail
  refine (pick9_l op 7 kd wc hop (by omega) (by omega) HKD).mono ?_
  rintro x W7 ⟨rfl, rfl⟩
  have HPS4 := Lib.hid HON2.out.psa
  have HQ4 := Lib.hid HON2.out.qb
  have HB4 : Hid (Below g2 w W7) := Lib.hid (HG2.out ▸ HON2.out.bel)
  have hnk : (nameS (k : Int)).length ≤ 14 := name_len _
  clear y0
  obtain hd | hd | hd | hd | hd | hd | hd : kd = 0 ∨ kd = 1 ∨ kd = 2 ∨ kd = 3 ∨ kd = 4 ∨ kd = 5 ∨ kd = 6 := by omega
  · subst hd
    obtain ⟨⟨e9, l9⟩, hact⟩ : ∃ q, createD room (nameS (k : Int)) m l = q := ⟨_, rfl⟩
    have HACT := Lib.hid hact
    have HI9 := Lib.hid (show D.Inv room l9 by have := createD_inv (room := room) (nm := nameS (k : Int)) (first := m) HPS4.out.inv; rw [hact] at this; exact this)
    have HN9 := Lib.hid (show Named l9 by have := HPS4.out.nam.create (room := room) (nm := nameS (k : Int)) (first := m); rw [hact] at this; exact this)
    clear hact
    have hS := HQ4.out.q8
    go_upto_region 16 with (fail)
    refine wp_region_held_drew (S := Q8 g2 g3 p mp op n m (.slice la xs.length lc) text (.slice ka keep.length kc)) (by kernel_rfl) ?_ (fun hHeld => ?_)
    · exact Q8_drew hS
    refine take_wanted (i := 0) (v := ?_) rfl (by kernel_rfl) (by kernel_rfl) (by kernel_rfl) (fun _ _ _ h => h) (by rfl) ?_ (by assumption) ?_
    rotate_left
    · intro w hSw
      (try dsimp only at hSw)
      go_simp
      (try with_reducible rfl)
    simp only [Act.put, List.setIfInBounds_toArray, List.set_cons_zero, List.set_cons_succ]
    refine take_wanted (i := 1) (v := ?_) rfl (by kernel_rfl) (by kernel_rfl) (by kernel_rfl) (fun _ _ _ h => h) (by rfl) ?_ (by assumption) ?_
    rotate_left
    · intro w hSw
      (try dsimp only at hSw)
      go_simp
      (try with_reducible rfl)
    simp only [Act.put, List.setIfInBounds_toArray, List.set_cons_zero, List.set_cons_succ]
    refine take_wanted (i := 2) (v := ?_) rfl (by kernel_rfl) (by kernel_rfl) (by kernel_rfl) (fun _ _ _ h => h) (by rfl) ?_ (by assumption) ?_
    rotate_left
    · intro w hSw
      (try dsimp only at hSw)
      go_simp
      (try with_reducible rfl)
    simp only [Act.put, List.setIfInBounds_toArray, List.set_cons_zero, List.set_cons_succ]
    refine take_wanted (i := 3) (v := ?_) rfl (by kernel_rfl) (by kernel_rfl) (by kernel_rfl) (fun _ _ _ h => h) (by rfl) ?_ (by assumption) ?_
    rotate_left
    · intro w hSw
      (try dsimp only at hSw)
      go_simp
      (try with_reducible rfl)
    simp only [Act.put, List.setIfInBounds_toArray, List.set_cons_zero, List.set_cons_succ]
    refine take_wanted (i := 4) (v := ?_) rfl (by kernel_rfl) (by kernel_rfl) (by kernel_rfl) (fun _ _ _ h => h) (by rfl) ?_ (by assumption) ?_
    rotate_left
    · intro w hSw
      (try dsimp only at hSw)
      go_simp
      (try with_reducible rfl)
    simp only [Act.put, List.setIfInBounds_toArray, List.set_cons_zero, List.set_cons_succ]
    refine take_wanted (i := 6) (v := ?_) rfl (by kernel_rfl) (by kernel_rfl) (by kernel_rfl) (fun _ _ _ h => h) (by rfl) ?_ (by assumption) ?_
    rotate_left
    · intro w hSw
      (try dsimp only at hSw)
      go_simp
      (try with_reducible rfl)
    simp only [Act.put, List.setIfInBounds_toArray, List.set_cons_zero, List.set_cons_succ]
    refine take_wanted (i := 7) (v := ?_) rfl (by kernel_rfl) (by kernel_rfl) (by kernel_rfl) (fun _ _ _ h => h) (by rfl) ?_ (by assumption) ?_
    rotate_left
    · intro w hSw
      (try dsimp only at hSw)
      go_simp
      (try with_reducible rfl)
    simp only [Act.put, List.setIfInBounds_toArray, List.set_cons_zero, List.set_cons_succ]
    refine take_wanted (i := 8) (v := ?_) rfl (by kernel_rfl) (by kernel_rfl) (by kernel_rfl) (fun _ _ _ h => h) (by rfl) ?_ (by assumption) ?_
    rotate_left
    · intro w hSw
      (try dsimp only at hSw)
      go_simp
      (try with_reducible rfl)
    simp only [Act.put, List.setIfInBounds_toArray, List.set_cons_zero, List.set_cons_succ]
    refine take_wanted (i := 9) (v := ?_) rfl (by kernel_rfl) (by kernel_rfl) (by kernel_rfl) (fun _ _ _ h => h) (by rfl) ?_ (by assumption) ?_
    rotate_left
    · intro w hSw
      (try dsimp only at hSw)
      go_simp
      (try with_reducible rfl)
    simp only [Act.put, List.setIfInBounds_toArray, List.set_cons_zero, List.set_cons_succ]
    refine take_wanted (i := 10) (v := ?_) rfl (by kernel_rfl) (by kernel_rfl) (by kernel_rfl) (fun _ _ _ h => h) (by rfl) ?_ (by assumption) ?_
    rotate_left
    · intro w hSw
      (try dsimp only at hSw)
      go_simp
      (try with_reducible rfl)
    simp only [Act.put, List.setIfInBounds_toArray, List.set_cons_zero, List.set_cons_succ]
    refine take_only (i := 5) (by kernel_rfl) rfl (by rfl) (fun K hK => ?_)
    go_simp
    go_at_call 13
    refine (Z.create k m e9 l9 HPS4.out.drew.at_ HPS4.out.inv hro3 HPS4.out.nam hk1 (by omega) hm HACT.out).mono ?_
    rintro x w7 ⟨rfl, ⟨S7, hA7, hg7⟩, hb7⟩; have hmid := Lib.hid (HPS4.out.drew.mid hA7 hg7 hb7)
    refine hK.out _ _ ?_ (fun hHeld => ?_)
    · exact (hHeld.2.2.2.2.2.2.but hb7 HN2.out.1 HN2.out.2).q8
    clear hK K
    refine take_only (i := 11) (by kernel_rfl) rfl (by rfl) (fun K hK => ?_)
    go_simp
    go_at_call 21
    refine (rCreate_l (k : Int) m e9 l9 _ hmid.out.mat hmid.out.inv hro3 HACT.out).mono ?_
    rintro x w9 ⟨rfl, hm9, hk9⟩
    refine hK.out _ _ ?_ (fun hHeld => ?_)
    · exact (hHeld.2.2.2.2.2.2.kp hk9 HNM.out.1 HNM.out.2).q8
    clear hK K
    refine take_wanted (i := 12) (v := .bool true) rfl (by kernel_rfl) (by kernel_rfl) (by kernel_rfl) (fun _ _ _ h => h) (by rfl) ?_ (by assumption) ?_
    · intro w hSw
      (try dsimp only at hSw)
      go_simp
      try simp
    simp only [Act.put, List.setIfInBounds_toArray, List.set_cons_zero, List.set_cons_succ]
    refine take_wanted (i := 13) (v := ?_) rfl (by kernel_rfl) (by kernel_rfl) (by kernel_rfl) (fun _ _ _ h => h) (by rfl) ?_ (by assumption) ?_
    rotate_left
    · intro w hSw
      (try dsimp only at hSw)
      go_simp
      (try with_reducible rfl)
    simp only [Act.put, List.setIfInBounds_toArray, List.set_cons_zero, List.set_cons_succ]
    refine wpAnyH_done (by kernel_rfl) ?_ _
    have HPS9 := Lib.hid (hmid.out.done hm9 hk9 HI9.out HN9.out)
    have HRS9 := Lib.hid (rest_of HG2.out HB4.out.drew hb7 hg7 hk9)
    clear hHeld hS
    go_wp2
    go_ret
    exact ⟨rfl, l9, S7, HPS9.out, HRS9.out⟩
  · subst hd
    obtain ⟨⟨e9, l9⟩, hact⟩ : ∃ q, addD room (nameS (k : Int)) (ensOf xs2) l = q := ⟨_, rfl⟩
    have HACT := Lib.hid hact
    have HI9 := Lib.hid (show D.Inv room l9 by have := addD_inv (room := room) (nm := nameS (k : Int)) (es := ensOf xs2) HPS4.out.inv; rw [hact] at this; exact this)
    have HN9 := Lib.hid (show Named l9 by have := HPS4.out.nam.add (room := room) (nm := nameS (k : Int)) (es := ensOf xs2); rw [hact] at this; exact this)
    clear hact
    have hS := HQ4.out.q8
    go_upto_region 19 with (fail)
    refine wp_region_held_drew (S := Q8 g2 g3 p mp op n m (.slice la xs.length lc) text (.slice ka keep.length kc)) (by kernel_rfl) ?_ (fun hHeld => ?_)
    · exact Q8_drew hS
    refine take_wanted (i := 0) (v := ?_) rfl (by kernel_rfl) (by kernel_rfl) (by kernel_rfl) (fun _ _ _ h => h) (by rfl) ?_ (by assumption) ?_
    rotate_left
    · intro w hSw
      (try dsimp only at hSw)
      go_simp
      (try with_reducible rfl)
    simp only [Act.put, List.setIfInBounds_toArray, List.set_cons_zero, List.set_cons_succ]
    refine take_wanted (i := 1) (v := ?_) rfl (by kernel_rfl) (by kernel_rfl) (by kernel_rfl) (fun _ _ _ h => h) (by rfl) ?_ (by assumption) ?_
    rotate_left
    · intro w hSw
      (try dsimp only at hSw)
      go_simp
      (try with_reducible rfl)
    simp only [Act.put, List.setIfInBounds_toArray, List.set_cons_zero, List.set_cons_succ]
    refine take_wanted (i := 2) (v := ?_) rfl (by kernel_rfl) (by kernel_rfl) (by kernel_rfl) (fun _ _ _ h => h) (by rfl) ?_ (by assumption) ?_
    rotate_left
    · intro w hSw
      (try dsimp only at hSw)
      go_simp
      (try with_reducible rfl)
    simp only [Act.put, List.setIfInBounds_toArray, List.set_cons_zero, List.set_cons_succ]
    refine take_wanted (i := 3) (v := ?_) rfl (by kernel_rfl) (by kernel_rfl) (by kernel_rfl) (fun _ _ _ h => h) (by rfl) ?_ (by assumption) ?_
    rotate_left
    · intro w hSw
      (try dsimp only at hSw)
      go_simp
      (try with_reducible rfl)
    simp only [Act.put, List.setIfInBounds_toArray, List.set_cons_zero, List.set_cons_succ]
    refine take_wanted (i := 5) (v := ?_) rfl (by kernel_rfl) (by kernel_rfl) (by kernel_rfl) (fun _ _ _ h => h) (by rfl) ?_ (by assumption) ?_
    rotate_left
    · intro w hSw
      (try dsimp only at hSw)
      go_simp
      (try with_reducible rfl)
    simp only [Act.put, List.setIfInBounds_toArray, List.set_cons_zero, List.set_cons_succ]
    refine take_wanted (i := 6) (v := ?_) rfl (by kernel_rfl) (by kernel_rfl) (by kernel_rfl) (fun _ _ _ h => h) (by rfl) ?_ (by assumption) ?_
    rotate_left
    · intro w hSw
      (try dsimp only at hSw)
      go_simp
      (try with_reducible rfl)
    simp only [Act.put, List.setIfInBounds_toArray, List.set_cons_zero, List.set_cons_succ]
    refine take_wanted (i := 7) (v := ?_) rfl (by kernel_rfl) (by kernel_rfl) (by kernel_rfl) (fun _ _ _ h => h) (by rfl) ?_ (by assumption) ?_
    rotate_left
    · intro w hSw
      (try dsimp only at hSw)
      go_simp
      (try with_reducible rfl)
    simp only [Act.put, List.setIfInBounds_toArray, List.set_cons_zero, List.set_cons_succ]
    refine take_wanted (i := 8) (v := ?_) rfl (by kernel_rfl) (by kernel_rfl) (by kernel_rfl) (fun _ _ _ h => h) (by rfl) ?_ (by assumption) ?_
    rotate_left
    · intro w hSw
      (try dsimp only at hSw)
      go_simp
      (try with_reducible rfl)
    simp only [Act.put, List.setIfInBounds_toArray, List.set_cons_zero, List.set_cons_succ]
    refine take_only (i := 4) (by kernel_rfl) rfl (by rfl) (fun K hK => ?_)
    go_simp
    go_at_call 14
    refine (Z.add k xs2 _ e9 l9 HPS4.out.drew.at_ HPS4.out.inv hro3 HPS4.out.nam hk1 (by omega) (fun _ hw => HON2.out.row _ (but_below (bel_drew _) hw)) (by have := HON2.out.len; omega) (fun x hx => light_small (HON2.out.light x hx)) HACT.out).mono ?_
    rintro x w7 ⟨rfl, ⟨S7, hA7, hg7⟩, hb7⟩; have hmid := Lib.hid (HPS4.out.drew.mid hA7 hg7 hb7)
    refine hK.out _ _ ?_ (fun hHeld => ?_)
    · exact (hHeld.2.2.2.2.2.2.but hb7 HN2.out.1 HN2.out.2).q8
    clear hK K
    refine take_only (i := 9) (by kernel_rfl) rfl (by rfl) (fun K hK => ?_)
    go_simp
    go_at_call 22
    refine (rAdd_l (k : Int) xs2 _ e9 l9 _ hmid.out.mat hmid.out.inv hro (HON2.out.row _ (but_below (bel_drew _) hb7)) (by have := HON2.out.len; omega) (fun x hx => light_tiny (HON2.out.light x hx)) HACT.out).mono ?_
    rintro x w9 ⟨rfl, hm9, hk9⟩
    refine hK.out _ _ ?_ (fun hHeld => ?_)
    · exact (hHeld.2.2.2.2.2.2.kp hk9 HNM.out.1 HNM.out.2).q8
    clear hK K
    refine take_wanted (i := 10) (v := .bool true) rfl (by kernel_rfl) (by kernel_rfl) (by kernel_rfl) (fun _ _ _ h => h) (by rfl) ?_ (by assumption) ?_
    · intro w hSw
      (try dsimp only at hSw)
      go_simp
      try simp
    simp only [Act.put, List.setIfInBounds_toArray, List.set_cons_zero, List.set_cons_succ]
    refine take_wanted (i := 11) (v := ?_) rfl (by kernel_rfl) (by kernel_rfl) (by kernel_rfl) (fun _ _ _ h => h) (by rfl) ?_ (by assumption) ?_
    rotate_left
    · intro w hSw
      (try dsimp only at hSw)
      go_simp
      (try with_reducible rfl)
    simp only [Act.put, List.setIfInBounds_toArray, List.set_cons_zero, List.set_cons_succ]
    refine wpAnyH_done (by kernel_rfl) ?_ _
    have HPS9 := Lib.hid (hmid.out.done hm9 hk9 HI9.out HN9.out)
    have HRS9 := Lib.hid (rest_of HG2.out HB4.out.drew hb7 hg7 hk9)
    clear hHeld hS
    go_wp2
    go_ret
    exact ⟨rfl, l9, S7, HPS9.out, HRS9.out⟩
  · subst hd
    obtain ⟨⟨e9, l9⟩, hact⟩ : ∃ q, addD room (nameS (k : Int)) (ensOf xs2) l = q := ⟨_, rfl⟩
    have HACT := Lib.hid hact
    have HI9 := Lib.hid (show D.Inv room l9 by have := addD_inv (room := room) (nm := nameS (k : Int)) (es := ensOf xs2) HPS4.out.inv; rw [hact] at this; exact this)
    have HN9 := Lib.hid (show Named l9 by have := HPS4.out.nam.add (room := room) (nm := nameS (k : Int)) (es := ensOf xs2); rw [hact] at this; exact this)
    clear hact
    have hS := HQ4.out.q8
    go_upto_region 19 with (fail)
    refine wp_region_held_drew (S := Q8 g2 g3 p mp op n m (.slice la xs.length lc) text (.slice ka keep.length kc)) (by kernel_rfl) ?_ (fun hHeld => ?_)
    · exact Q8_drew hS
    refine take_wanted (i := 0) (v := ?_) rfl (by kernel_rfl) (by kernel_rfl) (by kernel_rfl) (fun _ _ _ h => h) (by rfl) ?_ (by assumption) ?_
    rotate_left
    · intro w hSw
      (try dsimp only at hSw)
      go_simp
      (try with_reducible rfl)
    simp only [Act.put, List.setIfInBounds_toArray, List.set_cons_zero, List.set_cons_succ]
    refine take_wanted (i := 1) (v := ?_) rfl (by kernel_rfl) (by kernel_rfl) (by kernel_rfl) (fun _ _ _ h => h) (by rfl) ?_ (by assumption) ?_
    rotate_left
    · intro w hSw
      (try dsimp only at hSw)
      go_simp
      (try with_reducible rfl)
    simp only [Act.put, List.setIfInBounds_toArray, List.set_cons_zero, List.set_cons_succ]
    refine take_wanted (i := 2) (v := ?_) rfl (by kernel_rfl) (by kernel_rfl) (by kernel_rfl) (fun _ _ _ h => h) (by rfl) ?_ (by assumption) ?_
    rotate_left
    · intro w hSw
      (try dsimp only at hSw)
      go_simp
      (try with_reducible rfl)
    simp only [Act.put, List.setIfInBounds_toArray, List.set_cons_zero, List.set_cons_succ]
    refine take_wanted (i := 3) (v := ?_) rfl (by kernel_rfl) (by kernel_rfl) (by kernel_rfl) (fun _ _ _ h => h) (by rfl) ?_ (by assumption) ?_
    rotate_left
    · intro w hSw
      (try dsimp only at hSw)
      go_simp
      (try with_reducible rfl)
    simp only [Act.put, List.setIfInBounds_toArray, List.set_cons_zero, List.set_cons_succ]
    refine take_wanted (i := 5) (v := ?_) rfl (by kernel_rfl) (by kernel_rfl) (by kernel_rfl) (fun _ _ _ h => h) (by rfl) ?_ (by assumption) ?_
    rotate_left
    · intro w hSw
      (try dsimp only at hSw)
      go_simp
      (try with_reducible rfl)
    simp only [Act.put, List.setIfInBounds_toArray, List.set_cons_zero, List.set_cons_succ]
    refine take_wanted (i := 6) (v := ?_) rfl (by kernel_rfl) (by kernel_rfl) (by kernel_rfl) (fun _ _ _ h => h) (by rfl) ?_ (by assumption) ?_
    rotate_left
    · intro w hSw
      (try dsimp only at hSw)
      go_simp
      (try with_reducible rfl)
    simp only [Act.put, List.setIfInBounds_toArray, List.set_cons_zero, List.set_cons_succ]
    refine take_wanted (i := 7) (v := ?_) rfl (by kernel_rfl) (by kernel_rfl) (by kernel_rfl) (fun _ _ _ h => h) (by rfl) ?_ (by assumption) ?_
    rotate_left
    · intro w hSw
      (try dsimp only at hSw)
      go_simp
      (try with_reducible rfl)
    simp only [Act.put, List.setIfInBounds_toArray, List.set_cons_zero, List.set_cons_succ]
    refine take_wanted (i := 8) (v := ?_) rfl (by kernel_rfl) (by kernel_rfl) (by kernel_rfl) (fun _ _ _ h => h) (by rfl) ?_ (by assumption) ?_
    rotate_left
    · intro w hSw
      (try dsimp only at hSw)
      go_simp
      (try with_reducible rfl)
    simp only [Act.put, List.setIfInBounds_toArray, List.set_cons_zero, List.set_cons_succ]
    refine take_only (i := 4) (by kernel_rfl) rfl (by rfl) (fun K hK => ?_)
    go_simp
    go_at_call 14
    refine (Z.add k xs2 _ e9 l9 HPS4.out.drew.at_ HPS4.out.inv hro3 HPS4.out.nam hk1 (by omega) (fun _ hw => HON2.out.row _ (but_below (bel_drew _) hw)) (by have := HON2.out.len; omega) (fun x hx => light_small (HON2.out.light x hx)) HACT.out).mono ?_
    rintro x w7 ⟨rfl, ⟨S7, hA7, hg7⟩, hb7⟩; have hmid := Lib.hid (HPS4.out.drew.mid hA7 hg7 hb7)
    refine hK.out _ _ ?_ (fun hHeld => ?_)
    · exact (hHeld.2.2.2.2.2.2.but hb7 HN2.out.1 HN2.out.2).q8
    clear hK K
    refine take_only (i := 9) (by kernel_rfl) rfl (by rfl) (fun K hK => ?_)
    go_simp
    go_at_call 22
    refine (rAdd_l (k : Int) xs2 _ e9 l9 _ hmid.out.mat hmid.out.inv hro (HON2.out.row _ (but_below (bel_drew _) hb7)) (by have := HON2.out.len; omega) (fun x hx => light_tiny (HON2.out.light x hx)) HACT.out).mono ?_
    rintro x w9 ⟨rfl, hm9, hk9⟩
    refine hK.out _ _ ?_ (fun hHeld => ?_)
    · exact (hHeld.2.2.2.2.2.2.kp hk9 HNM.out.1 HNM.out.2).q8
    clear hK K
    refine take_wanted (i := 10) (v := .bool true) rfl (by kernel_rfl) (by kernel_rfl) (by kernel_rfl) (fun _ _ _ h => h) (by rfl) ?_ (by assumption) ?_
    · intro w hSw
      (try dsimp only at hSw)
      go_simp
      try simp
    simp only [Act.put, List.setIfInBounds_toArray, List.set_cons_zero, List.set_cons_succ]
    refine take_wanted (i := 11) (v := ?_) rfl (by kernel_rfl) (by kernel_rfl) (by kernel_rfl) (fun _ _ _ h => h) (by rfl) ?_ (by assumption) ?_
    rotate_left
    · intro w hSw
      (try dsimp only at hSw)
      go_simp
      (try with_reducible rfl)
    simp only [Act.put, List.setIfInBounds_toArray, List.set_cons_zero, List.set_cons_succ]
    refine wpAnyH_done (by kernel_rfl) ?_ _
    have HPS9 := Lib.hid (hmid.out.done hm9 hk9 HI9.out HN9.out)
    have HRS9 := Lib.hid (rest_of HG2.out HB4.out.drew hb7 hg7 hk9)
    clear hHeld hS
    go_wp2
    go_ret
    exact ⟨rfl, l9, S7, HPS9.out, HRS9.out⟩
  · subst hd
    obtain ⟨⟨e9, l9⟩, hact⟩ : ∃ q, cutD room (nameS (k : Int)) m l = q := ⟨_, rfl⟩
    have HACT := Lib.hid hact
    have HI9 := Lib.hid (show D.Inv room l9 by have := cutD_inv (room := room) (nm := nameS (k : Int)) (last := m) HPS4.out.inv; rw [hact] at this; exact this)
    have HN9 := Lib.hid (show Named l9 by have := HPS4.out.nam.cut (room := room) (nm := nameS (k : Int)) (last := m); rw [hact] at this; exact this)
    clear hact
    have hS := HQ4.out.q8
    go_upto_region 21 with (fail)
    refine wp_region_held_drew (S := Q8 g2 g3 p mp op n m (.slice la xs.length lc) text (.slice ka keep.length kc)) (by kernel_rfl) ?_ (fun hHeld => ?_)
    · exact Q8_drew hS
    refine take_wanted (i := 0) (v := ?_) rfl (by kernel_rfl) (by kernel_rfl) (by kernel_rfl) (fun _ _ _ h => h) (by rfl) ?_ (by assumption) ?_
    rotate_left
    · intro w hSw
      (try dsimp only at hSw)
      go_simp
      (try with_reducible rfl)
    simp only [Act.put, List.setIfInBounds_toArray, List.set_cons_zero, List.set_cons_succ]
    refine take_wanted (i := 1) (v := ?_) rfl (by kernel_rfl) (by kernel_rfl) (by kernel_rfl) (fun _ _ _ h => h) (by rfl) ?_ (by assumption) ?_
    rotate_left
    · intro w hSw
      (try dsimp only at hSw)
      go_simp
      (try with_reducible rfl)
    simp only [Act.put, List.setIfInBounds_toArray, List.set_cons_zero, List.set_cons_succ]
    refine take_wanted (i := 2) (v := ?_) rfl (by kernel_rfl) (by kernel_rfl) (by kernel_rfl) (fun _ _ _ h => h) (by rfl) ?_ (by assumption) ?_
    rotate_left
    · intro w hSw
      (try dsimp only at hSw)
      go_simp
      (try with_reducible rfl)
    simp only [Act.put, List.setIfInBounds_toArray, List.set_cons_zero, List.set_cons_succ]
    refine take_wanted (i := 3) (v := ?_) rfl (by kernel_rfl) (by kernel_rfl) (by kernel_rfl) (fun _ _ _ h => h) (by rfl) ?_ (by assumption) ?_
    rotate_left
    · intro w hSw
      (try dsimp only at hSw)
      go_simp
      (try with_reducible rfl)
    simp only [Act.put, List.setIfInBounds_toArray, List.set_cons_zero, List.set_cons_succ]
    refine take_wanted (i := 4) (v := ?_) rfl (by kernel_rfl) (by kernel_rfl) (by kernel_rfl) (fun _ _ _ h => h) (by rfl) ?_ (by assumption) ?_
    rotate_left
    · intro w hSw
      (try dsimp only at hSw)
      go_simp
      (try with_reducible rfl)
    simp only [Act.put, List.setIfInBounds_toArray, List.set_cons_zero, List.set_cons_succ]
    refine take_wanted (i := 6) (v := ?_) rfl (by kernel_rfl) (by kernel_rfl) (by kernel_rfl) (fun _ _ _ h => h) (by rfl) ?_ (by assumption) ?_
    rotate_left
    · intro w hSw
      (try dsimp only at hSw)
      go_simp
      (try with_reducible rfl)
    simp only [Act.put, List.setIfInBounds_toArray, List.set_cons_zero, List.set_cons_succ]
    refine take_wanted (i := 7) (v := ?_) rfl (by kernel_rfl) (by kernel_rfl) (by kernel_rfl) (fun _ _ _ h => h) (by rfl) ?_ (by assumption) ?_
    rotate_left
    · intro w hSw
      (try dsimp only at hSw)
      go_simp
      (try with_reducible rfl)
    simp only [Act.put, List.setIfInBounds_toArray, List.set_cons_zero, List.set_cons_succ]
    refine take_wanted (i := 8) (v := ?_) rfl (by kernel_rfl) (by kernel_rfl) (by kernel_rfl) (fun _ _ _ h => h) (by rfl) ?_ (by assumption) ?_
    rotate_left
    · intro w hSw
      (try dsimp only at hSw)
      go_simp
      (try with_reducible rfl)
    simp only [Act.put, List.setIfInBounds_toArray, List.set_cons_zero, List.set_cons_succ]
    refine take_wanted (i := 9) (v := ?_) rfl (by kernel_rfl) (by kernel_rfl) (by kernel_rfl) (fun _ _ _ h => h) (by rfl) ?_ (by assumption) ?_
    rotate_left
    · intro w hSw
      (try dsimp only at hSw)
      go_simp
      (try with_reducible rfl)
    simp only [Act.put, List.setIfInBounds_toArray, List.set_cons_zero, List.set_cons_succ]
    refine take_wanted (i := 10) (v := ?_) rfl (by kernel_rfl) (by kernel_rfl) (by kernel_rfl) (fun _ _ _ h => h) (by rfl) ?_ (by assumption) ?_
    rotate_left
    · intro w hSw
      (try dsimp only at hSw)
      go_simp
      (try with_reducible rfl)
    simp only [Act.put, List.setIfInBounds_toArray, List.set_cons_zero, List.set_cons_succ]
    refine take_only (i := 5) (by kernel_rfl) rfl (by rfl) (fun K hK => ?_)
    go_simp
    go_at_call 23
    refine (Z.cut k m e9 l9 HPS4.out.drew.at_ HPS4.out.inv hro3 HPS4.out.nam hk1 (by omega) hm HACT.out).mono ?_
    rintro x w7 ⟨rfl, ⟨S7, hA7, hg7⟩, hb7⟩; have hmid := Lib.hid (HPS4.out.drew.mid hA7 hg7 hb7)
    refine hK.out _ _ ?_ (fun hHeld => ?_)
    · exact (hHeld.2.2.2.2.2.2.but hb7 HN2.out.1 HN2.out.2).q8
    clear hK K
    refine take_only (i := 11) (by kernel_rfl) rfl (by rfl) (fun K hK => ?_)
    go_simp
    go_at_call 24
    refine (rCut_l (k : Int) m e9 l9 _ hmid.out.mat hmid.out.inv hro HACT.out).mono ?_
    rintro x w9 ⟨rfl, hm9, hk9⟩
    refine hK.out _ _ ?_ (fun hHeld => ?_)
    · exact (hHeld.2.2.2.2.2.2.kp hk9 HNM.out.1 HNM.out.2).q8
    clear hK K
    refine take_wanted (i := 12) (v := .bool true) rfl (by kernel_rfl) (by kernel_rfl) (by kernel_rfl) (fun _ _ _ h => h) (by rfl) ?_ (by assumption) ?_
    · intro w hSw
      (try dsimp only at hSw)
      go_simp
      try simp
    simp only [Act.put, List.setIfInBounds_toArray, List.set_cons_zero, List.set_cons_succ]
    refine take_wanted (i := 13) (v := ?_) rfl (by kernel_rfl) (by kernel_rfl) (by kernel_rfl) (fun _ _ _ h => h) (by rfl) ?_ (by assumption) ?_
    rotate_left
    · intro w hSw
      (try dsimp only at hSw)
      go_simp
      (try with_reducible rfl)
    simp only [Act.put, List.setIfInBounds_toArray, List.set_cons_zero, List.set_cons_succ]
    refine wpAnyH_done (by kernel_rfl) ?_ _
    have HPS9 := Lib.hid (hmid.out.done hm9 hk9 HI9.out HN9.out)
    have HRS9 := Lib.hid (rest_of HG2.out HB4.out.drew hb7 hg7 hk9)
    clear hHeld hS
    go_wp2
    go_ret
    exact ⟨rfl, l9, S7, HPS9.out, HRS9.out⟩
  · subst hd
    obtain ⟨⟨e9, l9⟩, hact⟩ : ∃ q, D.append room (nameS (k : Int)) text l = q := ⟨_, rfl⟩
    have HACT := Lib.hid hact
    have HI9 := Lib.hid (show D.Inv room l9 by have := HPS4.out.inv.append (n := nameS (k : Int)) (s := text); rw [hact] at this; exact this)
    have HN9 := Lib.hid (show Named l9 by have := HPS4.out.nam.append (room := room) (n := nameS (k : Int)) (s := text); rw [hact] at this; exact this)
    clear hact
    have hS := HQ4.out.q8
    go_upto_region 23 with (fail)
    refine wp_region_held_drew (S := Q8 g2 g3 p mp op n m (.slice la xs.length lc) text (.slice ka keep.length kc)) (by kernel_rfl) ?_ (fun hHeld => ?_)
    · exact Q8_drew hS
    refine take_wanted (i := 0) (v := ?_) rfl (by kernel_rfl) (by kernel_rfl) (by kernel_rfl) (fun _ _ _ h => h) (by rfl) ?_ (by assumption) ?_
    rotate_left
    · intro w hSw
      (try dsimp only at hSw)
      go_simp
      (try with_reducible rfl)
    simp only [Act.put, List.setIfInBounds_toArray, List.set_cons_zero, List.set_cons_succ]
    refine take_wanted (i := 1) (v := ?_) rfl (by kernel_rfl) (by kernel_rfl) (by kernel_rfl) (fun _ _ _ h => h) (by rfl) ?_ (by assumption) ?_
    rotate_left
    · intro w hSw
      (try dsimp only at hSw)
      go_simp
      (try with_reducible rfl)
    simp only [Act.put, List.setIfInBounds_toArray, List.set_cons_zero, List.set_cons_succ]
    refine take_wanted (i := 2) (v := ?_) rfl (by kernel_rfl) (by kernel_rfl) (by kernel_rfl) (fun _ _ _ h => h) (by rfl) ?_ (by assumption) ?_
    rotate_left
    · intro w hSw
      (try dsimp only at hSw)
      go_simp
      (try with_reducible rfl)
    simp only [Act.put, List.setIfInBounds_toArray, List.set_cons_zero, List.set_cons_succ]
    refine take_wanted (i := 4) (v := ?_) rfl (by kernel_rfl) (by kernel_rfl) (by kernel_rfl) (fun _ _ _ h => h) (by rfl) ?_ (by assumption) ?_
    rotate_left
    · intro w hSw
      (try dsimp only at hSw)
      go_simp
      (try with_reducible rfl)
    simp only [Act.put, List.setIfInBounds_toArray, List.set_cons_zero, List.set_cons_succ]
    refine take_wanted (i := 5) (v := ?_) rfl (by kernel_rfl) (by kernel_rfl) (by kernel_rfl) (fun _ _ _ h => h) (by rfl) ?_ (by assumption) ?_
    rotate_left
    · intro w hSw
      (try dsimp only at hSw)
      go_simp
      (try with_reducible rfl)
    simp only [Act.put, List.setIfInBounds_toArray, List.set_cons_zero, List.set_cons_succ]
    refine take_wanted (i := 7) (v := ?_) rfl (by kernel_rfl) (by kernel_rfl) (by kernel_rfl) (fun _ _ _ h => h) (by rfl) ?_ (by assumption) ?_
    rotate_left
    · intro w hSw
      (try dsimp only at hSw)
      go_simp
      (try with_reducible rfl)
    simp only [Act.put, List.setIfInBounds_toArray, List.set_cons_zero, List.set_cons_succ]
    refine take_wanted (i := 8) (v := ?_) rfl (by kernel_rfl) (by kernel_rfl) (by kernel_rfl) (fun _ _ _ h => h) (by rfl) ?_ (by assumption) ?_
    rotate_left
    · intro w hSw
      (try dsimp only at hSw)
      go_simp
      (try with_reducible rfl)
    simp only [Act.put, List.setIfInBounds_toArray, List.set_cons_zero, List.set_cons_succ]
    refine take_wanted (i := 9) (v := ?_) rfl (by kernel_rfl) (by kernel_rfl) (by kernel_rfl) (fun _ _ _ h => h) (by rfl) ?_ (by assumption) ?_
    rotate_left
    · intro w hSw
      (try dsimp only at hSw)
      go_simp
      (try with_reducible rfl)
    simp only [Act.put, List.setIfInBounds_toArray, List.set_cons_zero, List.set_cons_succ]
    refine take_wanted (i := 11) (v := ?_) rfl (by kernel_rfl) (by kernel_rfl) (by kernel_rfl) (fun _ _ _ h => h) (by rfl) ?_ (by assumption) ?_
    rotate_left
    · intro w hSw
      (try dsimp only at hSw)
      go_simp
      (try with_reducible rfl)
    simp only [Act.put, List.setIfInBounds_toArray, List.set_cons_zero, List.set_cons_succ]
    refine take_wanted (i := 12) (v := ?_) rfl (by kernel_rfl) (by kernel_rfl) (by kernel_rfl) (fun _ _ _ h => h) (by rfl) ?_ (by assumption) ?_
    rotate_left
    · intro w hSw
      (try dsimp only at hSw)
      go_simp
      (try with_reducible rfl)
    simp only [Act.put, List.setIfInBounds_toArray, List.set_cons_zero, List.set_cons_succ]
    refine take_only (i := 3) (by kernel_rfl) rfl (by rfl) (fun K hK => ?_)
    go_simp
    go_at_call 16
    refine (Z.name (w := _) (k : Int) ⟨by omega, by omega⟩ (.inr (by omega))).mono ?_
    rintro x w5 ⟨rfl, hb5⟩; have HP5 := Lib.hid (HPS4.out.drew.below hb5); have HB5 := Lib.hid (belowT HB4.out.drew hb5 (show g2 ≤ W7.heap.size by have := HB4.out.size; have := HG2.out; omega))
    refine hK.out _ _ ?_ (fun hHeld => ?_)
    · exact (hHeld.2.2.2.2.2.2.below hb5).q8
    clear hK K
    refine take_only (i := 6) (by kernel_rfl) rfl (by rfl) (fun K hK => ?_)
    go_simp
    go_at_call 25
    refine (C.append (nameS (k : Int)) text e9 l9 HP5.out.at_ HP5.out.inv hro2 (by omega) (by omega) HACT.out).mono ?_
    rintro x w7 ⟨rfl, ⟨S7, hA7, hg7⟩, hb7⟩; have hmid := Lib.hid (HP5.out.mid hA7 hg7 hb7)
    refine hK.out _ _ ?_ (fun hHeld => ?_)
    · exact (hHeld.2.2.2.2.2.2.but hb7 HN2.out.1 HN2.out.2).q8
    clear hK K
    refine take_only (i := 10) (by kernel_rfl) rfl (by rfl) (fun K hK => ?_)
    go_simp
    go_at_call 27
    refine (rName_l (k : Int) _).mono ?_
    rintro x w8 ⟨rfl, rfl⟩
    refine hK.out _ _ ?_ (fun hHeld => ?_)
    · exact hHeld
    clear hK K
    refine take_only (i := 13) (by kernel_rfl) rfl (by rfl) (fun K hK => ?_)
    go_simp
    go_at_call 26
    refine (D.mAppend_l mp room l (nameS (k : Int)) text e9 l9 _ hmid.out.mat hmid.out.inv.sorted hmid.out.inv.many (by omega) (by omega) (by have := hmid.out.inv.room; omega) HACT).mono ?_
    rintro x w9 ⟨rfl, hm9, hk9⟩
    refine hK.out _ _ ?_ (fun hHeld => ?_)
    · exact (hHeld.2.2.2.2.2.2.kp hk9 HNM.out.1 HNM.out.2).q8
    clear hK K
    refine take_wanted (i := 14) (v := .bool true) rfl (by kernel_rfl) (by kernel_rfl) (by kernel_rfl) (fun _ _ _ h => h) (by rfl) ?_ (by assumption) ?_
    · intro w hSw
      (try dsimp only at hSw)
      go_simp
      try simp
    simp only [Act.put, List.setIfInBounds_toArray, List.set_cons_zero, List.set_cons_succ]
    refine take_wanted (i := 15) (v := ?_) rfl (by kernel_rfl) (by kernel_rfl) (by kernel_rfl) (fun _ _ _ h => h) (by rfl) ?_ (by assumption) ?_
    rotate_left
    · intro w hSw
      (try dsimp only at hSw)
      go_simp
      (try with_reducible rfl)
    simp only [Act.put, List.setIfInBounds_toArray, List.set_cons_zero, List.set_cons_succ]
    refine wpAnyH_done (by kernel_rfl) ?_ _
    have HPS9 := Lib.hid (hmid.out.done hm9 hk9 HI9.out HN9.out)
    have HRS9 := Lib.hid (rest_of HG2.out HB5.out hb7 hg7 hk9)
    clear hHeld hS
    go_wp2
    go_ret
    exact ⟨rfl, l9, S7, HPS9.out, HRS9.out⟩
  · subst hd
    have k0 := HQ4.out.q8.1
    have k5 := HQ4.out.q8.2.2.2.2.2.1
    go_wp2_with fail
    refine (C.crash keep _ HPS4.out.at_ HPS4.out.inv hro2 (fun _ hb => D.readsI_below HK.out (but_low HPS4.out.bel hb HPS4.out.lo)) (by omega)).mono ?_
    rintro x w7 ⟨rfl, ⟨S7, hA7, hg7⟩, hb7⟩
    have hmid := Lib.hid (HPS4.out.mid hA7 hg7 hb7)
    have HQ7 := Lib.hid (HQ4.out.but hb7 HN2.out.1 HN2.out.2)
    have HI9 := Lib.hid (HPS4.out.inv.crash (ks := keep))
    have HN9 := Lib.hid (HPS4.out.nam.crash (ks := keep))
    have h40 := HPS4.out.inv.many
    clear hA7 k0 k5
    have k1 := HQ7.out.q8.2.1
    have k5 := HQ7.out.q8.2.2.2.2.2.1
    go_wp2_with fail
    refine (D.mCrash_l mp room l keep _ w7 hmid.out.mat (by omega) (fun f hf => ⟨hmid.out.inv.syn f hf, by have := data_le hmid.out.inv hf; omega⟩) (fun _ hb => D.readsI_below HK.out (Kp_low rfl hmid.out.bel hb))).mono ?_
    rintro x w9 ⟨rfl, hm9, hk9⟩
    have HPS9 := Lib.hid (hmid.out.done hm9 hk9 HI9.out HN9.out)
    have HRS9 := Lib.hid (rest_of HG2.out HB4.out hb7 hg7 hk9)
    clear hm9 hk9
    go_wp2
    go_ret
    exact ⟨rfl, _, S7, HPS9.out, HRS9.out⟩
  · subst hd
    obtain ⟨⟨e9, l9⟩, hact⟩ : ∃ q, D.delete (nameS (k : Int)) l = q := ⟨_, rfl⟩
    have HACT := Lib.hid hact
    have HI9 := Lib.hid (show D.Inv room l9 by have := HPS4.out.inv.delete (n := nameS (k : Int)); rw [hact] at this; exact this)
    have HN9 := Lib.hid (show Named l9 by have := HPS4.out.nam.delete (n := nameS (k : Int)); rw [hact] at this; exact this)
    clear hact
    have hS := HQ4.out.q8
    go_upto_region 28 with (fail)
    refine wp_region_held_drew (S := Q8 g2 g3 p mp op n m (.slice la xs.length lc) text (.slice ka keep.length kc)) (by kernel_rfl) ?_ (fun hHeld => ?_)
    · exact Q8_drew hS
    refine take_wanted (i := 0) (v := ?_) rfl (by kernel_rfl) (by kernel_rfl) (by kernel_rfl) (fun _ _ _ h => h) (by rfl) ?_ (by assumption) ?_
    rotate_left
    · intro w hSw
      (try dsimp only at hSw)
      go_simp
      (try with_reducible rfl)
    simp only [Act.put, List.setIfInBounds_toArray, List.set_cons_zero, List.set_cons_succ]
    refine take_wanted (i := 1) (v := ?_) rfl (by kernel_rfl) (by kernel_rfl) (by kernel_rfl) (fun _ _ _ h => h) (by rfl) ?_ (by assumption) ?_
    rotate_left
    · intro w hSw
      (try dsimp only at hSw)
      go_simp
      (try with_reducible rfl)
    simp only [Act.put, List.setIfInBounds_toArray, List.set_cons_zero, List.set_cons_succ]
    refine take_wanted (i := 2) (v := ?_) rfl (by kernel_rfl) (by kernel_rfl) (by kernel_rfl) (fun _ _ _ h => h) (by rfl) ?_ (by assumption) ?_
    rotate_left
    · intro w hSw
      (try dsimp only at hSw)
      go_simp
      (try with_reducible rfl)
    simp only [Act.put, List.setIfInBounds_toArray, List.set_cons_zero, List.set_cons_succ]
    refine take_wanted (i := 5) (v := ?_) rfl (by kernel_rfl) (by kernel_rfl) (by kernel_rfl) (fun _ _ _ h => h) (by rfl) ?_ (by assumption) ?_
    rotate_left
    · intro w hSw
      (try dsimp only at hSw)
      go_simp
      (try with_reducible rfl)
    simp only [Act.put, List.setIfInBounds_toArray, List.set_cons_zero, List.set_cons_succ]
    refine take_wanted (i := 6) (v := ?_) rfl (by kernel_rfl) (by kernel_rfl) (by kernel_rfl) (fun _ _ _ h => h) (by rfl) ?_ (by assumption) ?_
    rotate_left
    · intro w hSw
      (try dsimp only at hSw)
      go_simp
      (try with_reducible rfl)
    simp only [Act.put, List.setIfInBounds_toArray, List.set_cons_zero, List.set_cons_succ]
    refine take_wanted (i := 7) (v := ?_) rfl (by kernel_rfl) (by kernel_rfl) (by kernel_rfl) (fun _ _ _ h => h) (by rfl) ?_ (by assumption) ?_
    rotate_left
    · intro w hSw
      (try dsimp only at hSw)
      go_simp
      (try with_reducible rfl)
    simp only [Act.put, List.setIfInBounds_toArray, List.set_cons_zero, List.set_cons_succ]
    refine take_only (i := 3) (by kernel_rfl) rfl (by rfl) (fun K hK => ?_)
    go_simp
    go_at_call 16
    refine (Z.name (w := _) (k : Int) ⟨by omega, by omega⟩ (.inr (by omega))).mono ?_
    rintro x w5 ⟨rfl, hb5⟩; have HP5 := Lib.hid (HPS4.out.drew.below hb5); have HB5 := Lib.hid (belowT HB4.out.drew hb5 (show g2 ≤ W7.heap.size by have := HB4.out.size; have := HG2.out; omega))
    refine hK.out _ _ ?_ (fun hHeld => ?_)
    · exact (hHeld.2.2.2.2.2.2.below hb5).q8
    clear hK K
    refine take_only (i := 4) (by kernel_rfl) rfl (by rfl) (fun K hK => ?_)
    go_simp
    go_at_call 30
    refine (C.delete (nameS (k : Int)) e9 l9 HP5.out.at_ HP5.out.inv hro2 (by omega) HACT.out).mono ?_
    rintro x w7 ⟨rfl, ⟨S7, hA7, hg7⟩, hb7⟩; have hmid := Lib.hid (HP5.out.mid hA7 hg7 hb7)
    refine hK.out _ _ ?_ (fun hHeld => ?_)
    · exact (hHeld.2.2.2.2.2.2.but hb7 HN2.out.1 HN2.out.2).q8
    clear hK K
    refine take_only (i := 8) (by kernel_rfl) rfl (by rfl) (fun K hK => ?_)
    go_simp
    go_at_call 27
    refine (rName_l (k : Int) _).mono ?_
    rintro x w8 ⟨rfl, rfl⟩
    refine hK.out _ _ ?_ (fun hHeld => ?_)
    · exact hHeld
    clear hK K
    refine take_only (i := 9) (by kernel_rfl) rfl (by rfl) (fun K hK => ?_)
    go_simp
    go_at_call 31
    refine (D.mDelete_l mp room l (nameS (k : Int)) e9 l9 _ hmid.out.mat hmid.out.inv.sorted hmid.out.inv.many HACT).mono ?_
    rintro x w9 ⟨rfl, hm9, hkq9, -⟩; have hk9 := hkq9.kp hmid.out.mat.1
    refine hK.out _ _ ?_ (fun hHeld => ?_)
    · exact (hHeld.2.2.2.2.2.2.kp hk9 HNM.out.1 HNM.out.2).q8
    clear hK K
    refine take_wanted (i := 10) (v := .bool true) rfl (by kernel_rfl) (by kernel_rfl) (by kernel_rfl) (fun _ _ _ h => h) (by rfl) ?_ (by assumption) ?_
    · intro w hSw
      (try dsimp only at hSw)
      go_simp
      try simp
    simp only [Act.put, List.setIfInBounds_toArray, List.set_cons_zero, List.set_cons_succ]
    refine take_wanted (i := 11) (v := ?_) rfl (by kernel_rfl) (by kernel_rfl) (by kernel_rfl) (fun _ _ _ h => h) (by rfl) ?_ (by assumption) ?_
    rotate_left
    · intro w hSw
      (try dsimp only at hSw)
      go_simp
      (try with_reducible rfl)
    simp only [Act.put, List.setIfInBounds_toArray, List.set_cons_zero, List.set_cons_succ]
    refine wpAnyH_done (by kernel_rfl) ?_ _
    have HPS9 := Lib.hid (hmid.out.done hm9 hk9 HI9.out HN9.out)
    have HRS9 := Lib.hid (rest_of HG2.out HB5.out hb7 hg7 hk9)
    clear hHeld hS
    go_wp2
    go_ret
    exact ⟨rfl, l9, S7, HPS9.out, HRS9.out⟩
end Go.Proofs.YtmfhipjceeijmaaGreatDoor.G
