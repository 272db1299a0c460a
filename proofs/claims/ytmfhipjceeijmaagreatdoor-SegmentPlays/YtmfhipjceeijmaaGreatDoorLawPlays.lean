/-
  The walk of the law SegmentPlays over any disk and segment package that keep their contracts.
-/
import Derived.Test.YtmfhipjceeijmaaGreatDoorBun43
import Derived.Test.YtmfhipjceeijmaaGreatDoorBun34
import Derived.Test.YtmfhipjceeijmaaGreatDoorBun29
namespace Go.Proofs.YtmfhipjceeijmaaGreatDoor.G
open Go.RowKit
open D (dP MAt F)
attribute [local go_sem] ext_Bd ext_Bl ext_Bt toList_B add_B size_B get_Bt

theorem right_evs {e : R.En} (h : R.right e = true) : e.b.events.length ≤ 1000000 := by
  have := (E.fits_inv (R.right_iff.1 h).2.2.2.2).2.1
  omega
theorem loadD_right {nm : Tx} {l : List F} {e f : Nat} {es : List R.En} {t : Bool} (h : loadD nm l = (e, f, es, t)) : ∀ x ∈ es, R.right x = true := by
  unfold loadD at h
  cases hf : D.find nm l with
  | none => rw [hf] at h; cases h; simp
  | some f0 =>
    rw [hf] at h
    dsimp only at h
    cases hl : loadL f0.data with
    | none => rw [hl] at h; cases h; simp
    | some o =>
      rw [hl] at h
      obtain ⟨a, b, c⟩ := o
      cases h
      exact R.follows_right (load_is hl).2.2.1
set_option maxHeartbeats 4000000 in
set_option maxRecDepth 100000 in
theorem same9_l (f : Nat) (t : Bool) (xs ys : List EV) (xa ya : Option Addr) (xc yc : Nat) (w : World) (hx : ReadsR w (.slice xa xs.length xc) xs) (hy : ReadsR w (.slice ya ys.length yc) ys) (he : ensOf xs = ensOf ys) (hl : xs.length ≤ 1000) (hr : ∀ x ∈ ys, x.1.b.events.length ≤ 1000000) :
    Calls Tryz.prog 12 #[.agg #[.int .i64 (f : Int), .slice xa xs.length xc, .bool t], .agg #[.int .i64 (f : Int), .slice ya ys.length yc, .bool t]] w fun x w' => x = .returned (.bool true) ∧ Below w.heap.size w w' := by
  have hb1 := (Below.refl w.heap.size w).alloc (Nat.le_refl _) (.cells #[.int .i64 (f : Int), .slice xa xs.length xc, .bool t] 38)
  have hb2 := (Below.refl (w.alloc (.cells #[.int .i64 (f : Int), .slice xa xs.length xc, .bool t] 38)).heap.size (w.alloc (.cells #[.int .i64 (f : Int), .slice xa xs.length xc, .bool t] 38))).alloc (Nat.le_refl _) (.cells #[.int .i64 (f : Int), .slice ya ys.length yc, .bool t] 42)
  have HB := Lib.hid (hb1.trans (hb2.mono hb1.size))
  have h0 : ((w.alloc (.cells #[.int .i64 (f : Int), .slice xa xs.length xc, .bool t] 38)).alloc (.cells #[.int .i64 (f : Int), .slice ya ys.length yc, .bool t] 42)).heap[w.heap.size]? = some (.cells #[.int .i64 (f : Int), .slice xa xs.length xc, .bool t] 38 (0, 0)) := by
    rw [Below.heap_alloc _ _ _ (by simp)]
    exact World.alloc_heap_new w _
  have h1 : ((w.alloc (.cells #[.int .i64 (f : Int), .slice xa xs.length xc, .bool t] 38)).alloc (.cells #[.int .i64 (f : Int), .slice ya ys.length yc, .bool t] 42)).heap[w.heap.size + 1]? = some (.cells #[.int .i64 (f : Int), .slice ya ys.length yc, .bool t] 42 (0, 0)) := by
    have := World.alloc_heap_new (w.alloc (.cells #[.int .i64 (f : Int), .slice xa xs.length xc, .bool t] 38)) (.cells #[.int .i64 (f : Int), .slice ya ys.length yc, .bool t] 42)
    rwa [World.size_alloc] at this
  have H0 := Lib.hid h0
  have H1 := Lib.hid h1
  have HX := Lib.hid (readsR_below hx HB.out)
  have HY := Lib.hid (readsR_below hy HB.out)
  have HE := Lib.hid he
  have HR := Lib.hid hr
  clear hb1 hb2 h0 h1 hx hy he hr
  go_enter Tryz.func12, Tryz.ntmps12
  go_upto_region 1 with (fail)
  generalize (w.alloc (.cells #[.int .i64 (f : Int), .slice xa xs.length xc, .bool t] 38)).alloc (.cells #[.int .i64 (f : Int), .slice ya ys.length yc, .bool t] 42) = W at *
  have c0 := block_cell H0.out 0
  have c1 := block_cell H0.out 1
  have c2 := block_cell H0.out 2
  have d0 := block_cell H1.out 0
  have d1 := block_cell H1.out 1
  have d2 := block_cell H1.out 2
  simp at c0 c1 c2 d0 d1 d2
  have htt : (t == t) = true := by cases t <;> rfl
  have hff : ((f : Int) == (f : Int)) = true := beq_self_eq_true _
  go_wp2_with fail
  refine (SameRow_true xs ys _ _ W HX.out HY.out HE.out hl HR.out).mono ?_
  rintro x w2 ⟨rfl, hb2⟩
  have HB2 := Lib.hid (belowT HB.out hb2 HB.out.size)
  clear hb2
  go_wp2
  go_ret
  exact ⟨rfl, HB2.out⟩
/-- Both disks at work, and the law's block that tells them. -/
structure PLA (C : D.DC) (w : World) (p mp room ga : Nat) (wr : World) (l : List F) (S : Nat → Prop) : Prop where
  ps : PSA C w p mp room wr l S
  blk : wr.heap[ga]? = some (.cells #[dP p, dP mp] 28 (0, 0))
  ng : ¬ S ga
  nm : ga ≠ mp
section
variable {C : D.DC} {w : World} {p mp room ga : Nat} {wr w' : World} {l l2 : List F} {S S2 : Nat → Prop}
theorem PLA.below (h : PLA C w p mp room ga wr l S) (hb : Below wr.heap.size wr w') : PLA C w p mp room ga w' l S :=
  ⟨h.ps.below hb, (hb.block _ (lt_of_block h.blk)).trans h.blk, h.ng, h.nm⟩
theorem PLA.drew (h : PLA C w p mp room ga wr l S) : PLA C w p mp room ga wr.drew l S := h.below ⟨rfl, rfl, rfl, Nat.le_refl _, fun _ _ => rfl⟩
theorem PLA.next (h : PLA C w p mp room ga wr l S) (hp : PSA C w p mp room w' l2 S2) (hr : Rest S mp S2 wr w') : PLA C w p mp room ga w' l2 S2 :=
  ⟨hp, hr.1 _ _ h.blk h.ng h.nm (fun c fr e => by injection e with _ e2; exact absurd e2 (by decide)), fun h2 => by
    rcases hr.2 _ h2 with h3 | h3
    · exact h.ng h3
    · have := lt_of_block h.blk
      omega, h.nm⟩
theorem PLA.cells (h : PLA C w p mp room ga wr l S) : wr.cell? ⟨ga, 0, none⟩ = some (dP p) ∧ wr.cell? ⟨ga, 1, none⟩ = some (dP mp) := ⟨by rw [blkA h.blk]; rfl, by rw [blkA h.blk]; rfl⟩
end
/-- The cells of the pair and of an act. -/
abbrev C8 (ga b o : Nat) (p mp : Nat) (op n m : Int) (vl : Value) (t : Tx) (vk : Value) (w : World) : Prop :=
  w.cell? ⟨ga, 0, none⟩ = some (dP p) ∧ w.cell? ⟨ga, 1, none⟩ = some (dP mp) ∧ w.cell? ⟨b, o, none⟩ = some (.int .i64 op) ∧ w.cell? ⟨b, o + 1, none⟩ = some (.int .i64 n) ∧ w.cell? ⟨b, o + 2, none⟩ = some (.int .i64 m) ∧ w.cell? ⟨b, o + 3, none⟩ = some vl ∧ w.cell? ⟨b, o + 4, none⟩ = some (.string (B t)) ∧ w.cell? ⟨b, o + 5, none⟩ = some vk
theorem C8_drew {ga b o p mp : Nat} {op n m : Int} {vl : Value} {t : Tx} {vk : Value} {w : World} (h : C8 ga b o p mp op n m vl t vk w) : C8 ga b o p mp op n m vl t vk w.drew := h
set_option maxHeartbeats 16000000 in
set_option maxRecDepth 100000 in
theorem plays9_walk {C : D.DC} (Z : SC C) (room : Int) (acs : List Ac) (vl : Value) (w : World) (hr : i64B room) (hv : ReadsA w vl acs) :
    Calls Tryz.prog 3 #[.int .i64 room, vl] w fun x w' => x = .returned (.bool true) ∧ Below w.heap.size w w' := by
  have HA := Lib.hid hv
  obtain ⟨aa, ca, rfl, hx⟩ := hv
  have HX := Lib.hid hx
  clear hx
  obtain ⟨kk, hkk⟩ : ∃ kk, pickN room 5000 = kk := ⟨_, rfl⟩
  have hkl : kk < 5000 := by rw [← hkk]; exact pickN_lt _ (by omega)
  have HKK := Lib.hid hkk
  clear hkk
  go_enter Tryz.func3, Tryz.ntmps3
  go_wp2_with fail
  refine (shown9_l Z w).mono ?_
  rintro x w1 ⟨rfl, hb1⟩
  have HB1 := Lib.hid hb1
  clear hb1
  go_wp2_with fail
  refine (small9_l acs _ w1 (readsA_below HA.out HB1.out)).mono ?_
  rintro x w1' ⟨hok, hb1'⟩
  have HB1' := Lib.hid (belowT HB1.out hb1' HB1.out.size)
  clear hb1' HB1
  have HB1 := HB1'
  clear HB1'
  have HOK : Hid (x = .returned (.bool true) → acs.length ≤ 40 ∧ ∀ i (h : i < acs.length), LightAll acs[i].l ∧ acs[i].text.length ≤ 1000 ∧ acs[i].keep.length ≤ 30) := Lib.hid fun h => by
    rcases hok with h1 | ⟨-, h2⟩
    · rw [h] at h1; cases h1
    · exact h2
  obtain ⟨ok, rfl⟩ : ∃ ok, x = .returned (.bool ok) := by rcases hok with h | ⟨h, -⟩ <;> exact ⟨_, h⟩
  clear hok
  go_wp2_with fail
  refine (pick9_l room 5000 kk w1' hr (by omega) (by omega) HKK).mono ?_
  rintro x w1 ⟨rfl, rfl⟩
  have hrm : (20 : Int) + (kk : Int) = ((20 + kk : Nat) : Int) := by omega
  have HRM := Lib.hid hrm
  clear hrm
  go_wp2_with fail
  rw [HRM.out]
  obtain ⟨R, hR⟩ : ∃ R, 20 + kk = R := ⟨_, rfl⟩
  rw [hR]
  have hR1 : 20 ≤ R := by omega
  have hR2 : R ≤ 5100 := by omega
  clear hR HRM
  refine (begun9_l C (bs := w.heap.size) R w1 HB1.out.size (by omega) (by omega)).mono ?_
  rintro x w2 ⟨⟨p, mp, S, rfl, hd, hmb, hml, hmn⟩, hb2⟩
  have HB2 := Lib.hid (HB1.out.trans (hb2.mono HB1.out.size))
  have hal : Below w2.heap.size w2 (w2.alloc (.cells #[dP p, .pointer (some ⟨mp, 0, none⟩)] 28)) := (Below.refl _ _).alloc (Nat.le_refl _) _
  have hnew := World.alloc_heap_new w2 (.cells #[dP p, .pointer (some ⟨mp, 0, none⟩)] 28)
  have HO : Hid (PLA C w p mp R w2.heap.size (w2.alloc (.cells #[dP p, .pointer (some ⟨mp, 0, none⟩)] 28)) [] S) := Lib.hid
    ⟨PSA.below ⟨hd, ⟨hml, .slice none 0 0, hmb, rfl, .inl ⟨rfl, rfl⟩⟩, D.inv_nil _, (fun f hf => by cases hf), HB2.out, hmn⟩ hal, hnew, fun h => by have := (C.low hd h).2; omega, by have := lt_of_block hmb; omega⟩
  clear hd hb2 hal hnew HB1 HB2 hmb hml hmn
  go_upto_region 4 with (fail)
  generalize w2.alloc (.cells #[dP p, .pointer (some ⟨mp, 0, none⟩)] 28) = w3 at *
  generalize w2.heap.size = ga at *
  cases ok
  · go_wp2
    go_ret
    exact ⟨rfl, HO.out.ps.bel⟩
  obtain ⟨hl60, hsm⟩ := HOK.out rfl
  have HSM := Lib.hid hsm
  clear HOK hsm
  go_wp2
  go_loopw [9] (fun i wr => ∃ (k : Nat) (l : List F) (S : Nat → Prop), i = .int .i64 (k : Int) ∧ k ≤ acs.length ∧ Hid (PLA C w p mp R ga wr l S)) (fun i _ => acs.length - (intOf i).toNat)
  case atStart => exact ⟨0, [], S, rfl, Nat.zero_le _, HO⟩
  case round =>
    clear HO
    obtain ⟨k, l, S, rfl, hk, HP⟩ := hrel
    by_cases hlt : k < acs.length
    · have hi1 : (k : Int) < (acs.length : Int) := by omega
      obtain ⟨⟨hs, hkp, hop, hn, hm, -⟩, b, o, rfl, c0, c1, c2, c3, c4, c5⟩ := HX.out k hlt
      obtain ⟨hs1, hs2, hs3⟩ := HSM.out k hlt
      have HSG := Lib.hid hs
      have HKP := Lib.hid hkp
      obtain ⟨sa, sc, hsv, -⟩ := hs
      obtain ⟨ka, kc, hkv, -⟩ := hkp
      rw [hsv] at c3 HSG
      rw [hkv] at c5 HKP
      have HC0 := Lib.hid c0
      have HC1 := Lib.hid c1
      have HC2 := Lib.hid c2
      have HC3 := Lib.hid c3
      have HC4 := Lib.hid c4
      have HC5 := Lib.hid c5
      clear c0 c1 c2 c3 c4 c5 hsv hkv
      obtain ⟨op, hope⟩ : ∃ op, acs[k].op = op := ⟨_, rfl⟩
      obtain ⟨n, hne⟩ : ∃ n, acs[k].n = n := ⟨_, rfl⟩
      obtain ⟨m, hme⟩ : ∃ m, acs[k].m = m := ⟨_, rfl⟩
      obtain ⟨es, hse⟩ : ∃ es, acs[k].l = es := ⟨_, rfl⟩
      obtain ⟨tx, hte⟩ : ∃ tx, acs[k].text = tx := ⟨_, rfl⟩
      obtain ⟨ks, hke⟩ : ∃ ks, acs[k].keep = ks := ⟨_, rfl⟩
      rw [hope] at HC0 hop
      rw [hne] at HC1 hn
      rw [hme] at HC2 hm
      rw [hse] at HC3 HSG hs1
      rw [hte] at HC4 hs2
      rw [hke] at HC5 HKP hs3
      clear hope hne hme hse hte hke
      have HQ : Hid (∀ V, PLA C w p mp R ga V l S ∨ (∃ l2 S2, PLA C w p mp R ga V l2 S2) → C8 ga b (o + k * 6) p mp op n m (.slice sa es.length sc) tx (.slice ka ks.length kc) V) := Lib.hid fun V hV => by
        obtain ⟨l2, S2, hV⟩ : ∃ l2 S2, PLA C w p mp R ga V l2 S2 := hV.elim (fun h => ⟨_, _, h⟩) id
        have hb := hV.ps.bel
        exact ⟨hV.cells.1, hV.cells.2, keepsA hb _ _ HC0.out, keepsA hb _ _ HC1.out, keepsA hb _ _ HC2.out, keepsA hb _ _ HC3.out, keepsA hb _ _ HC4.out, keepsA hb _ _ HC5.out⟩
      clear HC0 HC1 HC2 HC3 HC4 HC5
      go_upto_region 9 with (fail)
      have hS := HQ.out wr (.inl HP.out)
      refine wp_region_held_drew (S := C8 ga b (o + k * 6) p mp op n m (.slice sa es.length sc) tx (.slice ka ks.length kc)) (by kernel_rfl) ?_ (fun hHeld => ?_)
      · exact C8_drew hS
      refine take_wanted (i := 0) (v := ?_) rfl (by kernel_rfl) (by kernel_rfl) (by kernel_rfl) (fun _ _ _ h => h) (by rfl) ?_ (by assumption) ?_
      rotate_left
      · intro w hSw
        (try dsimp only at hSw)
        go_simp
        (try with_reducible rfl)
      simp only [Act.put, List.setIfInBounds_toArray, List.set_cons_zero, List.set_cons_succ]
      refine take_wanted (i := 1) (v := ?_) rfl (by kernel_rfl) (by kernel_rfl) (by kernel_rfl) (fun _ _ _ h => h) (by rfl) ?_ (by assumption) ?_
      rotate_left
      · intro w hSw
        (try dsimp only at hSw)
        go_simp
        (try with_reducible rfl)
      simp only [Act.put, List.setIfInBounds_toArray, List.set_cons_zero, List.set_cons_succ]
      refine take_wanted (i := 2) (v := ?_) rfl (by kernel_rfl) (by kernel_rfl) (by kernel_rfl) (fun _ _ _ h => h) (by rfl) ?_ (by assumption) ?_
      rotate_left
      · intro w hSw
        (try dsimp only at hSw)
        go_simp
        (try with_reducible rfl)
      simp only [Act.put, List.setIfInBounds_toArray, List.set_cons_zero, List.set_cons_succ]
      refine take_wanted (i := 3) (v := ?_) rfl (by kernel_rfl) (by kernel_rfl) (by kernel_rfl) (fun _ _ _ h => h) (by rfl) ?_ (by assumption) ?_
      rotate_left
      · intro w hSw
        (try dsimp only at hSw)
        go_simp
        (try with_reducible rfl)
      simp only [Act.put, List.setIfInBounds_toArray, List.set_cons_zero, List.set_cons_succ]
      refine take_wanted (i := 4) (v := ?_) rfl (by kernel_rfl) (by kernel_rfl) (by kernel_rfl) (fun _ _ _ h => h) (by rfl) ?_ (by assumption) ?_
      rotate_left
      · intro w hSw
        (try dsimp only at hSw)
        go_simp
        (try with_reducible rfl)
      simp only [Act.put, List.setIfInBounds_toArray, List.set_cons_zero, List.set_cons_succ]
      refine take_only (i := 5) (by kernel_rfl) rfl (by rfl) (fun K hK => ?_)
      go_simp
      go_at_call 8
      refine (goes9_l Z p mp R op n m es sa sc tx ks ka kc _ l S HP.out.drew.ps (by omega) hop hn hm HSG.out HKP.out hs1 hs2 hs3).mono ?_
      rintro x w5 ⟨rfl, l5, S5, hp5, hr5⟩; have hpl5 := HP.out.drew.next hp5 hr5
      refine hK.out _ _ ?_ (fun hHeld => ?_)
      · exact HQ.out _ (.inr ⟨_, _, hpl5⟩)
      clear hK K
      refine take_wanted (i := 6) (v := ?_) rfl (by kernel_rfl) (by kernel_rfl) (by kernel_rfl) (fun _ _ _ h => h) (by rfl) ?_ (by assumption) ?_
      rotate_left
      · intro w hSw
        (try dsimp only at hSw)
        go_simp
        (try with_reducible rfl)
      simp only [Act.put, List.setIfInBounds_toArray, List.set_cons_zero, List.set_cons_succ]
      refine wpAnyH_done (by kernel_rfl) ?_ _
      clear hHeld hS HQ HP
      have HPL := Lib.hid hpl5
      clear hpl5 hp5 hr5 HSG HKP hop hn hm
      generalize l5 = l at *
      generalize S5 = S at *
      have k0 := HPL.out.cells.1
      have k1 := HPL.out.cells.2
      go_wp2_with fail
      refine (alike9_l C p mp R l S w5 HPL.out.ps.at_ HPL.out.ps.mat HPL.out.ps.inv (by omega) HPL.out.ps.nam.names).mono ?_
      rintro x w6 ⟨rfl, hb6⟩
      have HP6 := Lib.hid (HPL.out.below hb6)
      clear hb6 k0 k1 HPL
      go_wp2
      go_loopw [12] (fun i wr => ∃ q : Nat, i = .int .i64 (q : Int) ∧ q ≤ 5 ∧ Hid (PLA C w p mp R ga wr l S)) (fun i _ => 5 - (intOf i).toNat)
      case atStart => exact ⟨0, rfl, by omega, HP6⟩
      case round =>
        clear HP6
        obtain ⟨q, rfl, hq, HP⟩ := hrel
        by_cases hq5 : q < 5
        · have hqi : (q : Int) < 5 := by omega
          obtain ⟨e, f, es, t, HLD⟩ : ∃ e f es t, Hid (loadD (nameS (q : Int)) l = (e, f, es, t)) := ⟨_, _, _, _, Lib.hid rfl⟩
          have HRT := Lib.hid (loadD_right HLD.out)
          have HBD := Lib.hid (loadD_bd HP.out.ps.inv HLD.out)
          have k0 := HP.out.cells.1
          go_wp2_with fail
          refine (Z.load q e f es t HP.out.ps.at_ HP.out.ps.inv (by omega) HP.out.ps.nam (by omega) HLD.out).mono ?_
          rintro x w7 ⟨⟨v7, xs, rfl, hxe, hxr⟩, hb7⟩
          obtain ⟨xa, xc, rfl, -⟩ := id (hxr w7 (but_refl _ _))
          have hal : Below w7.heap.size w7 (w7.alloc (.cells #[.int .i64 (f : Int), .slice xa xs.length xc, .bool t] 38)) := (Below.refl _ _).alloc (Nat.le_refl _) _
          have HN8 := Lib.hid (World.alloc_heap_new w7 (.cells #[.int .i64 (f : Int), .slice xa xs.length xc, .bool t] 38))
          have HP8 := Lib.hid ((HP.out.below hb7).below hal)
          have HRX := Lib.hid (readsR_below (hxr w7 (but_refl _ _)) hal)
          have HXE := Lib.hid hxe
          clear hxr hxe hb7 hal k0 HP
          go_upto_region 17 with (fail)
          generalize w7.alloc (.cells #[.int .i64 (f : Int), .slice xa xs.length xc, .bool t] 38) = w8 at *
          generalize w7.heap.size = g8 at *
          have k1 := HP8.out.cells.2
          go_wp2_with fail
          refine (rLoad_l (q : Int) e f es t w8 HP8.out.ps.mat HP8.out.ps.inv (by omega) HLD.out).mono ?_
          rintro x w9 ⟨⟨v9, ys, rfl, hye, hyr⟩, hb9⟩
          obtain ⟨ya, yc, rfl, -⟩ := id hyr
          have hal : Below w9.heap.size w9 (w9.alloc (.cells #[.int .i64 (f : Int), .slice ya ys.length yc, .bool t] 42)) := (Below.refl _ _).alloc (Nat.le_refl _) _
          have HN10 := Lib.hid (World.alloc_heap_new w9 (.cells #[.int .i64 (f : Int), .slice ya ys.length yc, .bool t] 42))
          have HP10 := Lib.hid ((HP8.out.below hb9).below hal)
          have HRX10 := Lib.hid (readsR_below (readsR_below HRX.out hb9) hal)
          have HRY10 := Lib.hid (readsR_below hyr hal)
          have HYE := Lib.hid hye
          have HN8b := Lib.hid ((hal.block g8 (Nat.lt_of_lt_of_le (lt_of_block HN8.out) hb9.size)).trans ((hb9.block g8 (lt_of_block HN8.out)).trans HN8.out))
          clear hyr hye hb9 hal k1 HP8 HRX HN8 HLD
          go_upto_region 18 with (fail)
          generalize w9.alloc (.cells #[.int .i64 (f : Int), .slice ya ys.length yc, .bool t] 42) = w10 at *
          generalize w9.heap.size = g10 at *
          have c0 := block_cell HN8b.out 0
          have c1 := block_cell HN8b.out 1
          have c2 := block_cell HN8b.out 2
          have d0 := block_cell HN10.out 0
          have d1 := block_cell HN10.out 1
          have d2 := block_cell HN10.out 2
          simp at c0 c1 c2 d0 d1 d2
          have hee : ((e : Int) == (e : Int)) = true := beq_self_eq_true _
          go_wp2_with fail
          refine (same9_l f t xs ys xa ya xc yc w10 HRX10.out HRY10.out (HXE.out.trans HYE.out.symm) (by have := HBD.out.2.2; rw [← HXE.out, ensOf_len] at this; omega) (fun y hy => by
            exact right_evs (HRT.out y.1 (by rw [← HYE.out]; exact List.mem_map_of_mem hy)))).mono ?_
          rintro x w11 ⟨rfl, hb11⟩
          have HP12 := Lib.hid (HP10.out.below hb11)
          clear hb11 c0 c1 c2 d0 d1 d2 HP10 HRX10 HRY10 HN8b HN10
          go_wp2
          go_roundw
          case rel => exact ⟨q + 1, by go_num, by omega, HP12⟩
          case measure => simp [intOf]; omega
        · have hqi : ¬ (q : Int) < 5 := by omega
          go_wp2
          go_roundw
          case rel => exact ⟨k + 1, l, S, by go_num, by omega, HP⟩
          case measure => simp [intOf]; omega
    · go_wp2
      go_ret
      exact ⟨rfl, HP.out.ps.bel⟩
end Go.Proofs.YtmfhipjceeijmaaGreatDoor.G
