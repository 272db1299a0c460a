/-
  Own texts, joined: DiskRefC
-/
import Derived.Test.YtmfhipjceeijmaaGreatDoorBun25
import Derived.Test.YtmfhipjceeijmaaGreatDoorBun12
import Derived.Handy
import Derived.Deep.DeepCutAuto
import Derived.Test.YtmfhipjceeijmaaGreatDoorBun5

/-
  Walks of the document's disk (package bucketlineref8): Crash.
-/
namespace Go.Proofs.YtmfhipjceeijmaaGreatDoor.D
open Go.RowKit
attribute [local go_sem] ext_Bd ext_Bl ext_Bt toList_B add_B size_B get_Bt
variable {bs : Nat}

theorem fileCells_same {l : List F} {i : Nat} (h : i < l.length) : (fileCells l).set (i * 3) (.string (B l[i].name)) = fileCells l := by
  have h1 := (fileCells_at h).1
  obtain ⟨hlt, he⟩ := List.getElem?_eq_some_iff.1 h1
  rw [← he]
  exact List.set_getElem_self hlt
theorem MWr.set3 {w : World} {p : Nat} {room : Int} {l : List F} {g cap i : Nat} {t : Tx} {z : Nat} (h : MWr bs w p room l g cap) (hi : i < l.length) : MWr bs (((w.setCell ⟨g, i * 3, none⟩ (.string (B l[i].name))).setCell ⟨g, i * 3 + 1, none⟩ (.string (B t))).setCell ⟨g, i * 3 + 2, none⟩ (.int .i64 (z : Int))) p room (l.set i ⟨l[i].name, t, z⟩) g cap := by
  have h1 := h.setRow (i := i * 3) (u := .string (B l[i].name)) rfl (fileCells_same hi)
  have h2 := h1.setRow (k := l.set i ⟨l[i].name, t, l[i].syn⟩) (i := i * 3 + 1) (u := .string (B t)) (List.length_set ..) (fileCells_data hi t)
  have hi2 : i < (l.set i ⟨l[i].name, t, l[i].syn⟩).length := by rw [List.length_set]; exact hi
  have e2 := fileCells_syn hi2 z
  have e3 : (l.set i ⟨l[i].name, t, l[i].syn⟩)[i] = ⟨l[i].name, t, l[i].syn⟩ := List.getElem_set_self ..
  rw [e3, List.set_set] at e2
  exact h2.setRow (by rw [List.length_set, List.length_set]) e2
theorem crashF_eq {k : Int} {f : F} {m : Nat} (h : f.syn ≤ f.data.length) (hm : keepN k f = m) : crashF k f = ⟨f.name, f.data.take (f.syn + m), (f.data.take (f.syn + m)).length⟩ := by
  have := keepN_le k f
  unfold crashF
  rw [hm, List.length_take]
  congr 1
  omega
set_option maxHeartbeats 8000000 in
set_option maxRecDepth 100000 in
theorem mCrash_l (p : Nat) (room : Int) (l : List F) (ks : List Int) (v : Value) (w : World) (hm : MAt bs w p room l) (hl : l.length ≤ 1000) (hsy : ∀ f ∈ l, f.syn ≤ f.data.length ∧ f.data.length ≤ 4000000000) (hk : ∀ w', Kp bs p w w' → ReadsI w' v ks) :
    Calls Tryz.prog 29 #[.pointer (some ⟨p, 0, none⟩), v] w fun x w' => x = .returned (.tuple #[]) ∧ MAt bs w' p room (crash ks l) ∧ Kp bs p w w' := by
  have HK := Lib.hid hk
  obtain ⟨ka, kc, hv, -⟩ := hk w (Kp.refl p w)
  subst hv
  clear hk
  by_cases h0 : l.length = 0
  · obtain rfl := List.eq_nil_of_length_eq_zero h0
    obtain ⟨a, cap, hr⟩ := hm.rd
    have c0 := hr.c0
    have HM := Lib.hid hm
    clear hm hr hsy
    go_enter Tryz.func29, Tryz.ntmps29
    go_wp2
    go_loop [4] (fun i => i = .int .i64 0) (fun _ => 0)
    case atStart => rfl
    case round =>
      subst hrel
      go_wp2
      go_returns
      exact ⟨rfl, HM.out, Kp.refl _ _⟩
  · obtain ⟨g, cap, hw⟩ := hm.wr (by omega)
    have HW := Lib.hid hw
    have HSY := Lib.hid hsy
    clear hm hw hsy
    go_enter Tryz.func29, Tryz.ntmps29
    go_wp2
    go_loopw [4] (fun i wr => ∃ j : Nat, i = .int .i64 j ∧ j ≤ l.length ∧ Hid (MWr bs wr p room (crashTo ks l j) g cap) ∧ Hid (Kp bs p w wr)) (fun i _ => l.length - (intOf i).toNat)
    case atStart => exact ⟨0, rfl, Nat.zero_le _, Lib.hid (by rw [show crashTo ks l 0 = l from rfl]; exact HW.out), Lib.hid (Kp.refl _ _)⟩
    case round =>
      obtain ⟨j, rfl, hj, HWR, HKP⟩ := hrel
      have hln := crashTo_len (ks := ks) hj
      have c0 := HWR.out.cells.1
      rw [hln] at c0
      by_cases hlt : j < l.length
      · have hj1 : (j : Int) < (l.length : Int) := by omega
        have hjt : j < (crashTo ks l j).length := by rw [hln]; exact hlt
        have hat := crashTo_at (ks := ks) hlt hjt
        have HC := Lib.hid (fileCells_at hjt)
        rw [hat] at HC
        have HS3 : Hid (∀ (W : World) (t : Tx) (z : Nat), MWr bs W p room (crashTo ks l j) g cap → MWr bs (((W.setCell ⟨g, j * 3, none⟩ (.string (B l[j].name))).setCell ⟨g, j * 3 + 1, none⟩ (.string (B t))).setCell ⟨g, j * 3 + 2, none⟩ (.int .i64 (z : Int))) p room ((crashTo ks l j).set j ⟨l[j].name, t, z⟩) g cap) := Lib.hid fun W t z hW => by
          have := hW.set3 (t := t) (z := z) hjt
          rw [hat] at this
          exact this
        have HNX := Lib.hid (crashTo_next (ks := ks) hlt)
        have hsj := HSY.out _ (List.getElem_mem hlt)
        clear hat
        have HKW := Lib.hid (HK.out wr HKP.out)
        obtain ⟨kk, HKK⟩ : ∃ kk : Nat, Hid ((ks.getD j 0).toNat = kk) := ⟨_, Lib.hid rfl⟩
        obtain ⟨m, HMM⟩ : ∃ m : Nat, Hid (keepN (ks.getD j 0) l[j] = m) := ⟨_, Lib.hid rfl⟩
        have HM2 : Hid (m = min kk (l[j].data.length - l[j].syn)) := Lib.hid (by rw [← HMM.out, ← HKK.out]; rfl)
        have HCF : Hid (crashF (ks.getD j 0) l[j] = ⟨l[j].name, l[j].data.take (l[j].syn + m), (l[j].data.take (l[j].syn + m)).length⟩) := Lib.hid (crashF_eq hsj.1 HMM.out)
        have HKV : Hid (∀ h : j < ks.length, i64B ks[j] ∧ ((0 < ks[j] → ks[j] = (kk : Int)) ∧ (¬ 0 < ks[j] → kk = 0))) := Lib.hid fun h => by
          have e : ks.getD j 0 = ks[j] := by rw [List.getD_eq_getElem?_getD, List.getElem?_eq_getElem h]; rfl
          obtain ⟨_, _, _, hx⟩ := HKW.out
          have := HKK.out
          rw [e] at this
          exact ⟨(hx j h).1, fun h => by omega, fun h => by omega⟩
        have HKO : Hid (¬ j < ks.length → kk = 0) := Lib.hid fun h => by
          have e : ks.getD j 0 = 0 := by rw [List.getD_eq_getElem?_getD, List.getElem?_eq_none (by omega)]; rfl
          have := HKK.out
          rw [e] at this
          exact this.symm
        have x0 : wr.cell? ⟨g, j * 3, none⟩ = some (.string (B l[j].name)) := (HWR.out.cell (by omega)).trans HC.out.1
        have x1 : wr.cell? ⟨g, j * 3 + 1, none⟩ = some (.string (B l[j].data)) := (HWR.out.cell (by omega)).trans HC.out.2.1
        have x2 : wr.cell? ⟨g, j * 3 + 2, none⟩ = some (.int .i64 (l[j].syn : Int)) := (HWR.out.cell (by omega)).trans HC.out.2.2
        have HC0 : Hid (∀ W, MWr bs W p room (crashTo ks l j) g cap → W.cell? ⟨g, j * 3, none⟩ = some (.string (B l[j].name))) := Lib.hid fun W hW => (hW.cell (by omega)).trans HC.out.1
        have HC1 : Hid (∀ W, MWr bs W p room (crashTo ks l j) g cap → W.cell? ⟨g, j * 3 + 1, none⟩ = some (.string (B l[j].data))) := Lib.hid fun W hW => (hW.cell (by omega)).trans HC.out.2.1
        have HC2 : Hid (∀ W, MWr bs W p room (crashTo ks l j) g cap → W.cell? ⟨g, j * 3 + 2, none⟩ = some (.int .i64 (l[j].syn : Int))) := Lib.hid fun W hW => (hW.cell (by omega)).trans HC.out.2.2
        rw [HCF.out] at HNX
        clear HCF HKK HMM HC
        have hs1 := hsj.1
        have hs2 := hsj.2
        clear hsj
        generalize l[j].name = nm at x0 HS3 HNX HC0
        generalize l[j].data = dt at x1 HNX hs1 hs2 HM2 HC1
        generalize l[j].syn = sy at x2 HNX hs1 HM2 HC2
        go_upto_if 19 with (fail)
        go_cut [5] (fun x wx => x = .int .i64 (kk : Int) ∧ wr = wx)
        case first =>
          by_cases hjk : j < ks.length
          · have hjk1 : (j : Int) < (ks.length : Int) := by omega
            have hkv := HKV.out hjk
            obtain ⟨_, _, hve, hx⟩ := HKW.out
            cases hve
            obtain ⟨_, kb2, ko, rfl, yk⟩ := hx j hjk
            clear hx
            generalize ks[j] = z at yk hkv
            by_cases hz : 0 < z
            · have HZK := Lib.hid (hkv.2.1 hz)
              clear hkv
              go_wp2
              go_meet
              exact ⟨int_eq (by have := HZK.out; omega), rfl⟩
            · have HZK := Lib.hid (hkv.2.2 hz)
              have hz2 : z ≤ 0 := by omega
              clear hkv
              go_wp2
              go_meet
              exact ⟨int_eq (by have := HZK.out; omega), rfl⟩
          · have hjk1 : ¬ (j : Int) < (ks.length : Int) := by omega
            have HK0 := Lib.hid (HKO.out hjk)
            go_wp2
            go_meet
            exact ⟨int_eq (by have := HK0.out; omega), rfl⟩
        case rest =>
        obtain ⟨rfl, rfl⟩ := hcut
        clear HKV HKO HKW
        obtain ⟨h, HH⟩ : ∃ h, Hid (wr.heap.size = h) := ⟨_, Lib.hid rfl⟩
        go_upto_region 7 with (fail)
        go_cut [5] (fun x wx => x = .int .i64 (m : Int) ∧ wr.alloc (.cells #[.string (B nm), .string (B dt), .int .i64 (sy : Int)] 114) = wx)
        case first =>
          by_cases hbig : (dt.length : Int) - (sy : Int) < (kk : Int)
          · go_wp2
            go_meet
            exact ⟨int_eq (by have := HM2.out; omega), rfl⟩
          · have hbig2 : (kk : Int) ≤ (dt.length : Int) - (sy : Int) := by omega
            go_wp2
            go_meet
            exact ⟨int_eq (by have := HM2.out; omega), rfl⟩
        case rest =>
        obtain ⟨rfl, rfl⟩ := hcut
        have hmd : sy + m ≤ dt.length := by have := HM2.out; omega
        clear HM2
        have hmi : (sy : Int) + (m : Int) ≤ (dt.length : Int) := by omega
        have hzl : (dt.take (sy + m)).length = sy + m := by rw [List.length_take]; omega
        rw [hzl] at HNX
        clear hzl
        go_upto_region 10 with (fail)
        have HBb := Lib.hid ((Below.refl wr.heap.size wr).alloc (Nat.le_refl _) (.cells #[.string (B nm), .string (B (dt.take (sy + m))), .int .i64 ((sy : Int) + (m : Int))] 114))
        have HXb : Hid ((wr.alloc (.cells #[.string (B nm), .string (B (dt.take (sy + m))), .int .i64 ((sy : Int) + (m : Int))] 114)).heap[h]? = some (.cells #[.string (B nm), .string (B (dt.take (sy + m))), .int .i64 ((sy : Int) + (m : Int))] 114 (0, 0))) := Lib.hid (by rw [← HH.out]; exact heap_alloc_new wr _)
        have HWb := Lib.hid (HWR.out.below HBb.out)
        have HKb := Lib.hid (HKP.out.trans (Kp.of_below HBb.out))
        rw [HH.out]
        generalize wr.alloc (.cells #[.string (B nm), .string (B (dt.take (sy + m))), .int .i64 ((sy : Int) + (m : Int))] 114) = W at HXb HWb HKb ⊢
        clear HBb c0 x0 x1 x2 HKP
        have c0 := HWb.out.cells.1
        rw [hln] at c0
        have y0 : W.cell? ⟨h, 0, none⟩ = some (.string (B nm)) := by simp [World.cell?, HXb.out]
        have y1 : W.cell? ⟨h, 1, none⟩ = some (.string (B (dt.take (sy + m)))) := by simp [World.cell?, HXb.out]
        have y2 : W.cell? ⟨h, 2, none⟩ = some (.int .i64 ((sy : Int) + (m : Int))) := by simp [World.cell?, HXb.out]
        have x0 : W.cell? ⟨g, j * 3, none⟩ = some (.string (B nm)) := HC0.out W HWb.out
        have x1 : W.cell? ⟨g, j * 3 + 1, none⟩ = some (.string (B dt)) := HC1.out W HWb.out
        have x2 : W.cell? ⟨g, j * 3 + 2, none⟩ = some (.int .i64 (sy : Int)) := HC2.out W HWb.out
        have f0 := HWb.out.loose (j * 3)
        have f1 := HWb.out.loose (j * 3 + 1)
        have f2 := HWb.out.loose (j * 3 + 2)
        clear HWR
        go_region
        all_goals (try go_wp2)
        have hfin := HS3.out W (dt.take (sy + m)) (sy + m) HWb.out
        rw [HNX.out, show ((sy + m : Nat) : Int) = (sy : Int) + (m : Int) by omega] at hfin
        obtain ⟨cur, hg, -, -, -, hlo⟩ := HWb.out.blk
        have hk1 := HKb.out.set_row hg hlo (j * 3) (.string (B nm))
        have hk2 := hk1.set_row (set_blk hg _ _) hlo (j * 3 + 1) (.string (B (dt.take (sy + m))))
        have hk3 := hk2.set_row (set_blk (set_blk hg _ _) _ _) hlo (j * 3 + 2) (.int .i64 ((sy : Int) + (m : Int)))
        have HF := Lib.hid hfin
        have HK3 := Lib.hid hk3
        clear hfin hk1 hk2 hk3 hg cur hlo
        go_roundw
        case rel => first | exact ⟨j + 1, by go_num, by omega, Lib.hid (HF.out.quiet ⟨1, rfl⟩), Lib.hid (HK3.out.drewN 1)⟩ | ((repeat apply Exists.intro); exact ⟨⟨j + 1, by go_num, by omega, Lib.hid (HF.out.quiet ⟨1, rfl⟩), Lib.hid (HK3.out.drewN 1)⟩, rfl⟩)
        case measure => simp [intOf]; omega
      · have hj1 : ¬ (j : Int) < (l.length : Int) := by omega
        have HE : Hid (crashTo ks l j = crash ks l) := Lib.hid (by
          obtain rfl : j = l.length := by omega
          exact crashTo_end ks l)
        go_wp2
        go_returns
        rw [← HE.out]
        exact ⟨rfl, HWR.out.at, HKP.out⟩
end Go.Proofs.YtmfhipjceeijmaaGreatDoor.D
