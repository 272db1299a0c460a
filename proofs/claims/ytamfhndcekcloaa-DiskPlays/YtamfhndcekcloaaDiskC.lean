/-
  The laws' helper does over any disk that keeps its contracts.
-/
import Derived.Test.YtamfhndcekcloaaDiskLaw
import Derived.Test.YtamfhndcekcloaaDiskDC
namespace Go.Proofs.Ytamfhndcekcloaa.D
open Go.RowKit
attribute [local go_sem] ext_Bd ext_Bl ext_Bt toList_B add_B size_B get_Bt
variable {bs : Nat}
set_option maxHeartbeats 8000000 in
set_option maxRecDepth 100000 in
theorem does_l (C : DC) (p room : Nat) (l : List F) (a : Ac) (e : Nat) (l2 : List F) (S : Nat → Prop) (w : World) (hm : C.At bs w p room l S) (hi : Inv room l) (hro : room ≤ 1073741824) (hop : i64B a.op) (hn : a.name.length ≤ 200) (hmo : a.more.length ≤ 500) (hkp : a.keep.length ≤ 60) (hk : ∀ w', But S w w' → ReadsI w' a.v a.keep) (H : Hid (act room (pickN a.op 8) a.name a.more a.keep l = (e, l2))) :
    Calls Try.prog 14 #[.pointer (some ⟨p, 0, none⟩), .agg #[.int .i64 a.op, .string (B a.name), .string (B a.more), a.v]] w fun x w' => x = .returned (.int .i64 (e : Int)) ∧ (∃ S2, C.At bs w' p room l2 S2 ∧ Grow S w S2) ∧ But S w w' := by
  obtain ⟨op, nm, mo, kp, v⟩ := a
  dsimp only at hop hn hmo hkp hk H ⊢
  obtain ⟨pk, HPK⟩ : ∃ k, Hid (pickN op 8 = k) := ⟨_, Lib.hid rfl⟩
  have hpk := pickN_lt op (n := 8) (by omega)
  rw [HPK.out] at hpk H
  have HM := Lib.hid hm
  have HI := Lib.hid hi
  have HOP := Lib.hid hop
  have HKE := Lib.hid hk
  obtain ⟨ka, kc, hv, -⟩ := hk w (But.refl S w)
  subst hv
  have HB0 := Lib.hid ((Below.refl w.heap.size w).alloc (Nat.le_refl _) (.cells #[.int .i64 op, .string (B nm), .string (B mo), .slice ka kp.length kc] 36))
  have y0 : (w.alloc (.cells #[.int .i64 op, .string (B nm), .string (B mo), .slice ka kp.length kc] 36)).cell? ⟨w.heap.size, 0, none⟩ = some (.int .i64 op) := by rw [World.cell?_alloc_new]; rfl
  have y1 : (w.alloc (.cells #[.int .i64 op, .string (B nm), .string (B mo), .slice ka kp.length kc] 36)).cell? ⟨w.heap.size, 1, none⟩ = some (.string (B nm)) := by rw [World.cell?_alloc_new]; rfl
  have y2 : (w.alloc (.cells #[.int .i64 op, .string (B nm), .string (B mo), .slice ka kp.length kc] 36)).cell? ⟨w.heap.size, 2, none⟩ = some (.string (B mo)) := by rw [World.cell?_alloc_new]; rfl
  have y3 : (w.alloc (.cells #[.int .i64 op, .string (B nm), .string (B mo), .slice ka kp.length kc] 36)).cell? ⟨w.heap.size, 3, none⟩ = some (.slice ka kp.length kc) := by rw [World.cell?_alloc_new]; rfl
  have HM1 := Lib.hid (C.below HM.out HB0.out)
  have HK1 : Hid (But S w (w.alloc (.cells #[.int .i64 op, .string (B nm), .string (B mo), .slice ka kp.length kc] 36))) := Lib.hid (But.of_below HB0.out)
  clear hm hi hop hk HM
  have HSZ : Hid (w.heap.size ≤ (w.alloc (.cells #[.int .i64 op, .string (B nm), .string (B mo), .slice ka kp.length kc] 36)).heap.size) := Lib.hid HB0.out.size
  go_enter Try.func14, Try.ntmps14
  go_wp2_with fail
  refine (pick_l op 8 pk _ HOP.out (by omega) (by omega) HPK).mono ?_
  rintro x w1 ⟨rfl, rfl⟩
  generalize w.alloc (.cells #[.int .i64 op, .string (B nm), .string (B mo), .slice ka kp.length kc] 36) = W at y0 y1 y2 y3 HM1 HK1 HSZ ⊢
  clear HPK HB0
  unfold act at H
  have hcs : pk = 0 ∨ pk = 1 ∨ pk = 2 ∨ pk = 3 ∨ pk = 4 ∨ pk = 5 ∨ pk = 6 ∨ pk = 7 := by omega
  clear hpk
  rcases hcs with rfl | rfl | rfl | rfl | rfl | rfl | rfl | rfl
  iterate 3
    · have HA : Hid (append room nm mo l = (e, l2)) := Lib.hid (by simpa using H.out)
      clear H
      go_wp2_with fail
      refine (C.append nm mo e l2 HM1.out HI.out hro (by omega) (by omega) HA.out).mono ?_
      rintro x w2 ⟨rfl, ⟨S2, hm2, hg2⟩, hk2⟩
      have HM2 : Hid (C.At bs w2 p room l2 S2 ∧ Grow S w S2) := Lib.hid ⟨hm2, hg2.wide HSZ.out⟩
      have HK2 := Lib.hid (HK1.out.trans hk2)
      clear hm2 hk2 hg2 y0 y1 y2 y3
      go_wp2
      go_ret
      exact ⟨rfl, ⟨S2, HM2.out⟩, HK2.out⟩
  iterate 2
    · have HA : Hid (sync nm l = (e, l2)) := Lib.hid (by simpa using H.out)
      clear H
      go_wp2_with fail
      refine (C.sync nm e l2 HM1.out HI.out hro (by omega) HA.out).mono ?_
      rintro x w2 ⟨rfl, ⟨S2, hm2, hg2⟩, hk2⟩
      have HM2 : Hid (C.At bs w2 p room l2 S2 ∧ Grow S w S2) := Lib.hid ⟨hm2, hg2.wide HSZ.out⟩
      have HK2 := Lib.hid (HK1.out.trans hk2)
      clear hm2 hk2 hg2 y0 y1 y2 y3
      go_wp2
      go_ret
      exact ⟨rfl, ⟨S2, HM2.out⟩, HK2.out⟩
  · have HA : Hid (rename nm mo l = (e, l2)) := Lib.hid (by simpa using H.out)
    clear H
    go_wp2_with fail
    refine (C.rename nm mo e l2 HM1.out HI.out hro (by omega) (by omega) HA.out).mono ?_
    rintro x w2 ⟨rfl, ⟨S2, hm2, hg2⟩, hk2⟩
    have HM2 : Hid (C.At bs w2 p room l2 S2 ∧ Grow S w S2) := Lib.hid ⟨hm2, hg2.wide HSZ.out⟩
    have HK2 := Lib.hid (HK1.out.trans hk2)
    clear hm2 hk2 hg2 y0 y1 y2 y3
    go_wp2
    go_ret
    exact ⟨rfl, ⟨S2, HM2.out⟩, HK2.out⟩
  · have HA : Hid (delete nm l = (e, l2)) := Lib.hid (by simpa using H.out)
    clear H
    go_wp2_with fail
    refine (C.delete nm e l2 HM1.out HI.out hro (by omega) HA.out).mono ?_
    rintro x w2 ⟨rfl, ⟨S2, hm2, hg2⟩, hk2⟩
    have HM2 : Hid (C.At bs w2 p room l2 S2 ∧ Grow S w S2) := Lib.hid ⟨hm2, hg2.wide HSZ.out⟩
    have HK2 := Lib.hid (HK1.out.trans hk2)
    clear hm2 hk2 hg2 y0 y1 y2 y3
    go_wp2
    go_ret
    exact ⟨rfl, ⟨S2, HM2.out⟩, HK2.out⟩
  · have HA : Hid (e = 0 ∧ l2 = crash kp l) := Lib.hid (by
      have h := H.out
      simp at h
      exact ⟨h.1.symm, h.2.symm⟩)
    clear H
    go_wp2_with fail
    refine (C.crash kp _ HM1.out HI.out hro (fun w' h => HKE.out w' (HK1.out.trans h)) (by omega)).mono ?_
    rintro x w2 ⟨rfl, ⟨S2, hm2, hg2⟩, hk2⟩
    have HM2 : Hid (C.At bs w2 p room (D.crash kp l) S2 ∧ Grow S w S2) := Lib.hid ⟨hm2, hg2.wide HSZ.out⟩
    have HK2 := Lib.hid (HK1.out.trans hk2)
    clear hm2 hk2 hg2 y0 y1 y2 y3
    go_wp2
    go_ret
    rw [HA.out.1, HA.out.2]
    exact ⟨rfl, ⟨S2, HM2.out⟩, HK2.out⟩
end Go.Proofs.Ytamfhndcekcloaa.D
