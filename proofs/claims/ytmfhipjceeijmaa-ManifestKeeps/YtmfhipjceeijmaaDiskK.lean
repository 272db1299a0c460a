/-
  The landed disk's Crash.
-/
import Derived.Test.YtmfhipjceeijmaaDiskJ
import Derived.Test.YtmfhipjceeijmaaDiskTo
namespace Go.Proofs.Ytmfhipjceeijmaa.D
open Go.RowKit Go.Maps
attribute [local go_sem] ext_Bd ext_Bl ext_Bt toList_B add_B size_B get_Bt

theorem own_cut {w : World} {bs c k : Nat} {a : Option Addr} {d : Tx} (h : w.ownsRow bs 5 1 (.slice a d.length c) d.length (Lib.byteCells d)) (hk : k ≤ d.length) : w.ownsRow bs 5 1 (.slice a k c) k (Lib.byteCells (d.take k)) := by
  refine ⟨by simp [Lib.byteCells]; omega, ?_⟩
  rcases h.2 with ⟨hv, h0⟩ | ⟨g, cap, cur, hv, hb, hg, hn, hc, hs, ht⟩
  · obtain rfl : k = 0 := by omega
    rw [h0] at hv
    cases hv
    exact .inl ⟨rfl, rfl⟩
  · cases hv
    refine .inr ⟨g, c, cur, rfl, hb, hg, by omega, hc, hs, ?_⟩
    have : Lib.byteCells (d.take k) = (Lib.byteCells d).take k := by simp [Lib.byteCells, List.map_take]
    rw [this, ← ht, List.take_take]
    congr 1
    omega
theorem blk_len (a : Option Addr) (n k c : Nat) : (Value.slice a n c).ownBlock = (Value.slice a k c).ownBlock := by cases a <;> rfl
section
variable {bs : Nat} {w : World} {p m room : Nat} {l : List F} {loc : Tx → Value}
theorem crash_grow {k c : Nat} {lt2 l3 : List F} {loc2 : Tx → Value} {f f3 : F} {a : Option Addr} {n : Nat} (hg : Grow (SA p m l loc) w (SA p m lt2 loc2)) (hb : ∀ q, (Value.slice a n c).ownBlock = some q → SA p m lt2 loc2 q) (hp : put f3 lt2 = l3) (hs : Sorted lt2) (hf : f3 = f) :
    Grow (SA p m l loc) w (SA p m l3 (upd loc2 f.name (.slice a k c))) := fun q hq => by
  subst hf
  rw [← hp] at hq
  rcases hq with rfl | rfl | ⟨g, hg2, hk⟩
  · exact .inl (.inl rfl)
  · exact .inl (.inr (.inl rfl))
  · rcases put_mem hs hg2 with rfl | ⟨hg2, e⟩
    · rw [upd_same] at hk
      exact hg q (hb q (by rw [blk_len a n k c]; exact hk))
    · rw [upd_ne e] at hk
      exact hg q (.inr (.inr ⟨g, hg2, hk⟩))
theorem names_kept {w1 wr : World} {q : Addr} {u : Tx} (h : DA bs w1 p m room l loc) (hg : w1.grownBy wr (some m)) (hc : w1.cell? q = some (.string (B u))) : wr.cell? q = some (.string (B u)) := by
  rw [World.cell?_of_block (hg.block q.block (World.block_lt_of_cell? w1 q hc) fun e => ?_)]
  · exact hc
  · have e2 : q.block = m := Option.some.inj e
    obtain ⟨es, clock, hb, _⟩ := h.map
    simp [World.cell?, e2, hb] at hc
set_option maxHeartbeats 8000000 in
set_option maxRecDepth 100000 in
theorem crash_l (h : DA bs w p m room l loc) (hs : Sorted l) (hl : l.length ≤ 1000) (hsy : ∀ f ∈ l, f.syn ≤ f.data.length) (hdl : ∀ f ∈ l, f.data.length ≤ 100000000000) (ks : List Int) (v : Value) (hk : ∀ w', But (SA p m l loc) w w' → ReadsI w' v ks) :
    Calls Try.prog 11 #[dP p, v] w fun x w' => x = .returned (.tuple #[]) ∧ Mv bs w p m room l loc (D.crash ks l) w' := by
  have HD0 := Lib.hid h
  have HKE := Lib.hid hk
  have HS := Lib.hid hs
  have HSYA := Lib.hid hsy
  have HDLA := Lib.hid hdl
  obtain ⟨ka, kc, hv, -⟩ := hk w (But.refl _ w)
  subst hv
  clear h hk hs hsy hdl
  go_enter Try.func11, Try.ntmps11
  go_wp2_with fail
  refine (list_l HD0.out HS.out hl).mono ?_
  rintro x w1 ⟨⟨vn, rfl, hrn⟩, hb1⟩
  have HB1 := Lib.hid hb1
  have HRN := Lib.hid hrn
  have HD1 := Lib.hid (HD0.out.below hb1)
  obtain ⟨na, nc, hvn, -⟩ := hrn
  rw [strCells_len, List.length_map] at hvn
  subst hvn
  clear hb1
  go_wp2
  go_loopw [10] (fun i wr => ∃ (j : Nat) (loc2 : Tx → Value), i = .int .i64 j ∧ j ≤ l.length ∧ DA bs wr p m room (crashTo ks l j) loc2 ∧ Grow (SA p m l loc) w (SA p m (crashTo ks l j) loc2) ∧ w1.grownBy wr (some m)) (fun i _ => l.length - (intOf i).toNat)
  case atStart => exact ⟨0, loc, rfl, Nat.zero_le _, by rw [crashTo_zero]; exact HD1.out, by rw [crashTo_zero]; exact fun q hq => .inl hq, ⟨rfl, rfl, rfl, Nat.le_refl _, fun _ _ _ => rfl⟩⟩
  case round =>
    obtain ⟨j, loc2, rfl, hj, hda, hgr, hg⟩ := hrel
    have HDA := Lib.hid hda
    have HGR := Lib.hid hgr
    have HG := Lib.hid hg
    clear hda hgr hg
    by_cases hlt : j < l.length
    · have hj1 : (j : Int) < (l.length : Int) := by omega
      have HBUT : Hid (But (SA p m l loc) w wr) := Lib.hid (But.trans (But.of_below HB1.out) (but_grown HG.out fun q e => by cases e; exact .inr (.inl rfl)))
      have HRI := Lib.hid (HKE.out wr HBUT.out)
      obtain ⟨_, _, hv, hx⟩ := HRN.out
      rw [strCells_len, List.length_map] at hv hx
      cases hv
      obtain ⟨b, off, hab, g0⟩ := hx j hlt
      subst hab
      have e0 : (strCells (l.map F.name))[j]? = some (.string (B l[j].name)) := by simp [strCells, hlt]
      rw [e0] at g0
      have y0 : wr.cell? ⟨b, off + j, none⟩ = some (.string (B l[j].name)) := names_kept HD1.out HG.out g0
      have HPUT := Lib.hid (crashTo_put (ks := ks) HS.out hlt)
      have hfd := HDA.out.found (crashTo_find (ks := ks) HS.out hlt)
      have hlk := HDA.out.look1 l[j].name (HD0.out.nam (List.getElem_mem hlt))
      have HSY := Lib.hid (HSYA.out _ (List.getElem_mem hlt))
      have hdl := HDLA.out _ (List.getElem_mem hlt)
      have HSL : Hid (Sorted (crashTo ks l j) ∧ (crashTo ks l j).length ≤ 1000) := Lib.hid ⟨sorted_names crashTo_names.symm HS.out, by rw [crashTo_len hj]; exact hl⟩
      have c1 := HDA.out.cells.2
      clear g0 e0 hx
      generalize l[j] = f at y0 HPUT hfd hlk HSY hdl
      obtain ⟨a, c, hfd⟩ := hfd
      rw [hfd.look] at hlk
      have HFD := Lib.hid hfd
      clear hfd
      by_cases hjk : j < ks.length
      · have hjk1 : (j : Int) < (ks.length : Int) := by omega
        obtain ⟨_, _, hv, hx⟩ := HRI.out
        cases hv
        obtain ⟨hzb, b2, off2, hab, x0⟩ := hx j hjk
        subst hab
        have HZ : Hid (ks.getD j 0 = ks[j]) := Lib.hid (by simp [List.getD_eq_getElem?_getD, hjk])
        clear hx
        generalize ks[j] = z at hzb x0 HZ
        have HZB := Lib.hid hzb
        clear hzb
        obtain ⟨k, HK⟩ : ∃ k, Hid (f.syn + min z.toNat (f.data.length - f.syn) = k) := ⟨_, Lib.hid rfl⟩
        obtain ⟨dd, HDD⟩ : ∃ dd, Hid (f.data.take k = dd ∧ dd.length = k) := ⟨_, Lib.hid ⟨rfl, by have := HK.out; have := HSY.out; rw [List.length_take]; omega⟩⟩
        have HCF : Hid (crashF (ks.getD j 0) f = ⟨f.name, dd, k⟩) := Lib.hid (by rw [HZ.out]; unfold crashF keepN; rw [HK.out, HDD.out.1])
        have hcap := HFD.out.cap
        have hsy := HSY.out
        go_wp2_with fail
        refine (torn_l a f.data.length c k f.syn z _ hcap hdl hsy HZB.out HK).mono ?_
        rintro x w4 ⟨rfl, hb4⟩
        have HB4 := Lib.hid hb4
        have HRO := Lib.hid (own_below (own_cut HFD.out.row (by have := HK.out; omega : k ≤ f.data.length)) hb4)
        rw [HDD.out.1] at HRO
        have HD4 := Lib.hid (HDA.out.below hb4)
        have cP := put_l ⟨f.name, dd, k⟩ (HD4.out.dw _) HSL.out.1 HSL.out.2 (show f.name.length ≤ _ from HDA.out.nam HFD.out.mem) a c (by rw [HDD.out.2]; exact HRO.out) (fun g hg hne q hq => HFD.out.apart g hg hne q (by rw [blk_len a _ dd.length c]; exact hq))
        dsimp only at cP
        rw [HDD.out.2] at cP
        have CP := Lib.hid cP
        clear cP hb4 y0 x0 hlk c1 hcap hsy
        go_wp2_with fail
        refine CP.out.mono ?_
        rintro x w5 ⟨rfl, hd5, hg5⟩
        rw [← HCF.out, HPUT.out] at hd5
        have HD5 := Lib.hid hd5
        have HG5 := Lib.hid (grown_trans HG.out (grown_trans (grown_below HB4.out (some m)) hg5))
        have HGR5 := Lib.hid (crash_grow (k := k) HGR.out (fun q hq => HFD.out.blk q hq) HPUT.out HSL.out.1 HCF.out)
        clear hd5 hg5 CP
        go_wp2
        go_roundw
        case rel => exact ⟨j + 1, _, by go_num, by omega, HD5.out, HGR5.out, HG5.out⟩
        case measure => simp [intOf]; omega
      · have hjk1 : ¬ (j : Int) < (ks.length : Int) := by omega
        have HZ : Hid (ks.getD j 0 = 0) := Lib.hid (by simp [List.getD_eq_getElem?_getD, hjk])
        obtain ⟨k, HK⟩ : ∃ k, Hid (f.syn + min (0 : Int).toNat (f.data.length - f.syn) = k) := ⟨_, Lib.hid rfl⟩
        obtain ⟨dd, HDD⟩ : ∃ dd, Hid (f.data.take k = dd ∧ dd.length = k) := ⟨_, Lib.hid ⟨rfl, by have := HK.out; have := HSY.out; rw [List.length_take]; omega⟩⟩
        have HCF : Hid (crashF (ks.getD j 0) f = ⟨f.name, dd, k⟩) := Lib.hid (by rw [HZ.out]; unfold crashF keepN; rw [HK.out, HDD.out.1])
        have hcap := HFD.out.cap
        have hsy := HSY.out
        go_wp2_with fail
        refine (torn_l a f.data.length c k f.syn (0 : Int) _ hcap hdl hsy ⟨by omega, by omega⟩ HK).mono ?_
        rintro x w4 ⟨rfl, hb4⟩
        have HB4 := Lib.hid hb4
        have HRO := Lib.hid (own_below (own_cut HFD.out.row (by have := HK.out; omega : k ≤ f.data.length)) hb4)
        rw [HDD.out.1] at HRO
        have HD4 := Lib.hid (HDA.out.below hb4)
        have cP := put_l ⟨f.name, dd, k⟩ (HD4.out.dw _) HSL.out.1 HSL.out.2 (show f.name.length ≤ _ from HDA.out.nam HFD.out.mem) a c (by rw [HDD.out.2]; exact HRO.out) (fun g hg hne q hq => HFD.out.apart g hg hne q (by rw [blk_len a _ dd.length c]; exact hq))
        dsimp only at cP
        rw [HDD.out.2] at cP
        have CP := Lib.hid cP
        clear cP hb4 y0 hlk c1 hcap hsy
        go_wp2_with fail
        refine CP.out.mono ?_
        rintro x w5 ⟨rfl, hd5, hg5⟩
        rw [← HCF.out, HPUT.out] at hd5
        have HD5 := Lib.hid hd5
        have HG5 := Lib.hid (grown_trans HG.out (grown_trans (grown_below HB4.out (some m)) hg5))
        have HGR5 := Lib.hid (crash_grow (k := k) HGR.out (fun q hq => HFD.out.blk q hq) HPUT.out HSL.out.1 HCF.out)
        clear hd5 hg5 CP
        go_wp2
        go_roundw
        case rel => exact ⟨j + 1, _, by go_num, by omega, HD5.out, HGR5.out, HG5.out⟩
        case measure => simp [intOf]; omega
    · have hj1 : ¬ (j : Int) < (l.length : Int) := by omega
      obtain rfl : j = l.length := by omega
      have HF : Hid (Mv bs w p m room l loc (D.crash ks l) wr) := Lib.hid ⟨⟨loc2, by rw [← crashTo_end]; exact HDA.out, by rw [← crashTo_end]; exact HGR.out⟩, But.trans (But.of_below HB1.out) (but_grown HG.out fun q e => by cases e; exact .inr (.inl rfl))⟩
      go_wp2
      go_returns
      exact ⟨rfl, HF.out⟩
end
end Go.Proofs.Ytmfhipjceeijmaa.D
