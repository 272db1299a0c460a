/-
  Helpers of chapter 8's laws: pick, small, model.
-/
import Derived.Test.YtamfhndcekcloaaDiskRefC
namespace Go.Proofs.Ytamfhndcekcloaa.D
open Go.RowKit
attribute [local go_sem] ext_Bd ext_Bl ext_Bt toList_B add_B size_B get_Bt
variable {bs : Nat}

def pickN (c : Int) (n : Nat) : Nat := (if c < 0 then -(c + 1) else c).toNat % n
theorem pickN_lt (c : Int) {n : Nat} (h : 0 < n) : pickN c n < n := Nat.mod_lt _ h
set_option maxHeartbeats 1000000 in
set_option maxRecDepth 100000 in
theorem pick_l (c : Int) (n : Nat) (k : Nat) (w : World) (hc : i64B c) (hn : 0 < n) (hn2 : n ≤ 1000000) (H : Hid (pickN c n = k)) :
    Calls Try.prog 26 #[.int .i64 c, .int .i64 (n : Int)] w fun x w' => x = .returned (.int .i64 (k : Int)) ∧ w' = w := by
  obtain ⟨h1, h2⟩ := hc
  have hn0 : ((n : Int) == 0) = false := beq_eq_false_iff_ne.2 (by omega)
  have hn1 : ¬ (n : Int) = 0 := by omega
  by_cases h : c < 0
  · have HE : Hid (Int.tmod (-(c + 1)) (n : Int) = (k : Int)) := Lib.hid (by
      rw [← H.out]
      unfold pickN
      rw [if_pos h, Int.tmod_eq_emod_of_nonneg (by omega), Int.natCast_emod, Int.toNat_of_nonneg (by omega)])
    go_enter Try.func26, Try.ntmps26
    go_wp2
    go_ret
    rw [← HE.out, Int.neg_tmod]
    exact ⟨rfl, rfl⟩
  · have HE : Hid (c % (n : Int) = (k : Int)) := Lib.hid (by
      rw [← H.out]
      unfold pickN
      rw [if_neg h, Int.natCast_emod, Int.toNat_of_nonneg (by omega)])
    go_enter Try.func26, Try.ntmps26
    go_wp2
    go_ret
    rw [← HE.out]
    exact ⟨rfl, rfl⟩
/-- Acts that can be gone through. -/
def SmallA (l : List Ac) : Prop := l.length ≤ 80 ∧ ∀ i (h : i < l.length), l[i].name.length ≤ 200 ∧ l[i].more.length ≤ 500 ∧ l[i].keep.length ≤ 60
set_option maxHeartbeats 2000000 in
set_option maxRecDepth 100000 in
theorem small8_l (l : List Ac) (v : Value) (w : World) (hr : ReadsA w v l) :
    Calls Try.prog 10 #[v] w fun x w' => (x = .returned (.bool false) ∨ (x = .returned (.bool true) ∧ SmallA l)) ∧ w' = w := by
  obtain ⟨a, cap, rfl, hx⟩ := hr
  have HX := Lib.hid hx
  clear hx
  by_cases h80 : 80 < l.length
  · have h80i : (80 : Int) < (l.length : Int) := by omega
    go_enter Try.func10, Try.ntmps10
    go_wp2
    go_ret
    exact ⟨.inl rfl, rfl⟩
  · have h80i : ¬ (80 : Int) < (l.length : Int) := by omega
    go_enter Try.func10, Try.ntmps10
    go_wp2
    go_loop [3] (fun i => ∃ j : Nat, i = .int .i64 j ∧ j ≤ l.length ∧ Hid (∀ i (h : i < l.length), i < j → l[i].name.length ≤ 200 ∧ l[i].more.length ≤ 500 ∧ l[i].keep.length ≤ 60)) (fun i => l.length - (intOf i).toNat)
    case atStart => exact ⟨0, rfl, Nat.zero_le _, Lib.hid fun i _ h => by omega⟩
    case round =>
      obtain ⟨j, rfl, hj, HJ⟩ := hrel
      by_cases hlt : j < l.length
      · have hj1 : (j : Int) < (l.length : Int) := by omega
        obtain ⟨⟨hk, hop, hn, hm⟩, b, off, rfl, x0, x1, x2, x3⟩ := HX.out j hlt
        obtain ⟨ka, kc, hv, -⟩ := hk
        rw [hv] at x3
        have HN : Hid (l[j].name.length ≤ 200 ∧ l[j].more.length ≤ 500 ∧ l[j].keep.length ≤ 60 → ∀ i (h : i < l.length), i < j + 1 → l[i].name.length ≤ 200 ∧ l[i].more.length ≤ 500 ∧ l[i].keep.length ≤ 60) := Lib.hid fun hq i h hi => by
          by_cases e : i = j
          · subst e; exact hq
          · exact HJ.out i h (by omega)
        clear hv hop x0
        generalize l[j].name = nm at x1 HN hn
        generalize l[j].more = mo at x2 HN hm
        generalize l[j].keep = kp at x3 HN
        by_cases t1 : 200 < nm.length
        · have t1i : (200 : Int) < (nm.length : Int) := by omega
          go_wp2
          go_ret
          exact ⟨.inl rfl, rfl⟩
        have t1i : ¬ (200 : Int) < (nm.length : Int) := by omega
        by_cases t2 : 500 < mo.length
        · have t2i : (500 : Int) < (mo.length : Int) := by omega
          go_wp2
          go_ret
          exact ⟨.inl rfl, rfl⟩
        have t2i : ¬ (500 : Int) < (mo.length : Int) := by omega
        by_cases t3 : 60 < kp.length
        · have t3i : (60 : Int) < (kp.length : Int) := by omega
          go_wp2
          go_ret
          exact ⟨.inl rfl, rfl⟩
        have t3i : ¬ (60 : Int) < (kp.length : Int) := by omega
        go_wp2
        go_round
        case rel => exact ⟨j + 1, by go_num, by omega, Lib.hid (HN.out ⟨by omega, by omega, by omega⟩)⟩
        case measure => simp [intOf]; omega
      · have hj1 : ¬ (j : Int) < (l.length : Int) := by omega
        go_wp2
        go_ret
        exact ⟨.inr ⟨rfl, by omega, fun i h => HJ.out i h (by omega)⟩, rfl⟩
set_option maxHeartbeats 8000000 in
set_option maxRecDepth 100000 in
theorem model_l (p room : Nat) (l : List F) (a : Ac) (e : Nat) (l2 : List F) (w : World) (hm : MAt bs w p (room : Int) l) (hi : Inv room l) (hro : room ≤ 1073741824) (hop : i64B a.op) (hn : a.name.length ≤ 200) (hmo : a.more.length ≤ 500) (hk : ∀ w', Kp bs p w w' → ReadsI w' a.v a.keep) (H : Hid (act room (pickN a.op 8) a.name a.more a.keep l = (e, l2))) :
    Calls Try.prog 15 #[.pointer (some ⟨p, 0, none⟩), .agg #[.int .i64 a.op, .string (B a.name), .string (B a.more), a.v]] w fun x w' => x = .returned (.int .i64 (e : Int)) ∧ MAt bs w' p (room : Int) l2 ∧ Kp bs p w w' := by
  obtain ⟨op, nm, mo, kp, v⟩ := a
  dsimp only at hop hn hmo hk H ⊢
  obtain ⟨pk, HPK⟩ : ∃ k, Hid (pickN op 8 = k) := ⟨_, Lib.hid rfl⟩
  have hpk := pickN_lt op (n := 8) (by omega)
  rw [HPK.out] at hpk H
  have HM := Lib.hid hm
  have HI := Lib.hid hi
  have HOP := Lib.hid hop
  have HKE := Lib.hid hk
  obtain ⟨ka, kc, hv, -⟩ := hk w (Kp.refl p w)
  subst hv
  have hl := hi.many
  have hu := hi.room
  have HB0 := Lib.hid ((Below.refl w.heap.size w).alloc (Nat.le_refl _) (.cells #[.int .i64 op, .string (B nm), .string (B mo), .slice ka kp.length kc] 36))
  have y0 : (w.alloc (.cells #[.int .i64 op, .string (B nm), .string (B mo), .slice ka kp.length kc] 36)).cell? ⟨w.heap.size, 0, none⟩ = some (.int .i64 op) := by rw [World.cell?_alloc_new]; rfl
  have y1 : (w.alloc (.cells #[.int .i64 op, .string (B nm), .string (B mo), .slice ka kp.length kc] 36)).cell? ⟨w.heap.size, 1, none⟩ = some (.string (B nm)) := by rw [World.cell?_alloc_new]; rfl
  have y2 : (w.alloc (.cells #[.int .i64 op, .string (B nm), .string (B mo), .slice ka kp.length kc] 36)).cell? ⟨w.heap.size, 2, none⟩ = some (.string (B mo)) := by rw [World.cell?_alloc_new]; rfl
  have y3 : (w.alloc (.cells #[.int .i64 op, .string (B nm), .string (B mo), .slice ka kp.length kc] 36)).cell? ⟨w.heap.size, 3, none⟩ = some (.slice ka kp.length kc) := by rw [World.cell?_alloc_new]; rfl
  have HM1 := Lib.hid (HM.out.below HB0.out)
  have HK1 : Hid (Kp bs p w (w.alloc (.cells #[.int .i64 op, .string (B nm), .string (B mo), .slice ka kp.length kc] 36))) := Lib.hid (Kp.of_below HB0.out)
  clear hm hi hop hk HM
  go_enter Try.func15, Try.ntmps15
  go_wp2_with fail
  refine (pick_l op 8 pk _ HOP.out (by omega) (by omega) HPK).mono ?_
  rintro x w1 ⟨rfl, rfl⟩
  generalize w.alloc (.cells #[.int .i64 op, .string (B nm), .string (B mo), .slice ka kp.length kc] 36) = W at y0 y1 y2 y3 HM1 HK1 ⊢
  clear HPK HB0
  unfold act at H
  have hcs : pk = 0 ∨ pk = 1 ∨ pk = 2 ∨ pk = 3 ∨ pk = 4 ∨ pk = 5 ∨ pk = 6 ∨ pk = 7 := by omega
  clear hpk
  rcases hcs with rfl | rfl | rfl | rfl | rfl | rfl | rfl | rfl
  iterate 3
    · have HA : Hid (append room nm mo l = (e, l2)) := Lib.hid (by simpa using H.out)
      clear H
      go_wp2_with fail
      refine (mAppend_l p room l nm mo e l2 W HM1.out HI.out.sorted hl (by omega) (by omega) (by omega) HA).mono ?_
      rintro x w2 ⟨rfl, hm2, hk2⟩
      have HM2 := Lib.hid hm2
      have HK2 := Lib.hid (HK1.out.trans hk2)
      clear hm2 hk2 y0 y1 y2 y3
      go_wp2
      go_ret
      exact ⟨rfl, HM2.out, HK2.out⟩
  iterate 2
    · have HA : Hid (sync nm l = (e, l2)) := Lib.hid (by simpa using H.out)
      clear H
      go_wp2_with fail
      refine (mSync_l p room l nm e l2 W HM1.out HI.out.sorted (by omega) (fun f hf => by have := used_mem hf; omega) HA).mono ?_
      rintro x w2 ⟨rfl, hm2, hk2⟩
      have HM2 := Lib.hid hm2
      have HK2 := Lib.hid (HK1.out.trans hk2)
      clear hm2 hk2 y0 y1 y2 y3
      go_wp2
      go_ret
      exact ⟨rfl, HM2.out, HK2.out⟩
  · have HA : Hid (rename nm mo l = (e, l2)) := Lib.hid (by simpa using H.out)
    clear H
    go_wp2_with fail
    refine (mRename_l p room l nm mo e l2 W HM1.out HI.out.sorted hl (by omega) HA).mono ?_
    rintro x w2 ⟨rfl, hm2, hk2⟩
    have HM2 := Lib.hid hm2
    have HK2 := Lib.hid (HK1.out.trans hk2)
    clear hm2 hk2 y0 y1 y2 y3
    go_wp2
    go_ret
    exact ⟨rfl, HM2.out, HK2.out⟩
  · have HA : Hid (delete nm l = (e, l2)) := Lib.hid (by simpa using H.out)
    clear H
    go_wp2_with fail
    refine (mDelete_l p room l nm e l2 W HM1.out HI.out.sorted hl HA).mono ?_
    rintro x w2 ⟨rfl, hm2, hk2, -⟩
    have HM2 := Lib.hid hm2
    have HK2 := Lib.hid (HK1.out.trans (hk2.kp HM1.out.1))
    clear hm2 hk2 y0 y1 y2 y3
    go_wp2
    go_ret
    exact ⟨rfl, HM2.out, HK2.out⟩
  · have HA : Hid (e = 0 ∧ l2 = crash kp l) := Lib.hid (by
      have h := H.out
      simp at h
      exact ⟨h.1.symm, h.2.symm⟩)
    clear H
    go_wp2_with fail
    refine (mCrash_l p room l kp _ W HM1.out (by omega) (fun f hf => ⟨HI.out.syn f hf, by have := used_mem hf; omega⟩) (fun w' h => HKE.out w' (HK1.out.trans h))).mono ?_
    rintro x w2 ⟨rfl, hm2, hk2⟩
    have HM2 := Lib.hid hm2
    have HK2 := Lib.hid (HK1.out.trans hk2)
    clear hm2 hk2 y0 y1 y2 y3
    go_wp2
    go_ret
    rw [HA.out.1, HA.out.2]
    exact ⟨rfl, HM2.out, HK2.out⟩
end Go.Proofs.Ytamfhndcekcloaa.D
