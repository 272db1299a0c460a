/-
  Walk of package record: Fork.
-/
import Derived.Test.YtfhopgficckjkaaRecordClos2
import Derived.Test.YtfhopgficckjkaaRecordTurns
import Derived.Deep.DeepCutAuto
namespace Go.Proofs.Ytfhopgficckjkaa
open Go.RowKit
attribute [local go_sem] ext_Bd ext_Bl ext_Bt toList_B add_B size_B get_Bt

/-- What a loop over the places keeps: the closure's state, and the row of places. -/
structure ForkAt (w w1 w2 : World) (h1 : Nat) (a b : List R.Mk) (k : Nat) (wr : World) : Prop where
  part : ∃ p, PartAt wr w.heap.size h1 (h1 + 1) a b p ∧ ∀ x ∈ (R.sorted (R.turnsL a b)).drop k, p ≤ x
  all : ∀ x ∈ (R.sorted (R.turnsL a b)).take k, R.agree a b x = true
  but : But (fun k => w.heap.size ≤ k ∧ k ≤ h1 + 1) w2 wr
theorem parted_keep {w w' : World} {lo h1 h2 : Nat} {a b : List R.Mk} {p : Int} (h : PartAt w lo h1 h2 a b p) (hk : ∀ k, k ≤ h2 → w'.heap[k]? = w.heap[k]?) : PartAt w' lo h1 h2 a b p := by
  obtain ⟨la, g1, lb, k1, KA, KB, o0, o1, o2, o3, ga, gb, ea, eb, b1, b2⟩ := h
  have q1 := ea.ord
  have q2 := eb.ord
  exact ⟨la, g1, lb, k1, KA, KB, o0, o1, o2, o3, ga, gb, ea.keep fun k _ h => hk k (by omega), eb.keep fun k _ h => hk k (by omega), (hk h1 (by omega)).trans b1, (hk h2 (Nat.le_refl _)).trans b2⟩

set_option maxHeartbeats 4000000 in
set_option maxRecDepth 100000 in
theorem Fork_l (a b : List R.Mk) (va vb : Value) (la lb : Int) (w : World) (ha : ReadsM w va a) (hb : ReadsM w vb b) (hl : a.length ≤ 1000) (hl2 : b.length ≤ 1000) (hla : la ≤ 1000000) (hlb : lb ≤ 1000000) :
    Calls Try.prog 25 #[va, .int .i64 la, vb, .int .i64 lb] w fun r w' => r = .returned (.int .i64 (R.fork a la b lb : Nat)) ∧ Below w.heap.size w w' := by
  have HA := Lib.hid ha
  have HB := Lib.hid hb
  clear ha hb
  obtain ⟨r, HR⟩ : ∃ r, Hid (((R.fork a la b lb : Nat) : Int) = r) := ⟨_, Lib.hid rfl⟩
  rw [HR.out]
  obtain ⟨last, HL⟩ : ∃ r, Hid (max (min la lb) 0 = r) := ⟨_, Lib.hid rfl⟩
  go_enter Try.func25, Try.ntmps25
  go_upto_region 1 with (fail)
  go_cut [9] (fun s wx => s = .int .i64 last ∧ w = wx)
  case first =>
    rcases (by omega : (lb < la ∧ lb < 0) ∨ (lb < la ∧ 0 ≤ lb) ∨ (la ≤ lb ∧ la < 0) ∨ (la ≤ lb ∧ 0 ≤ la)) with ⟨h, h'⟩ | ⟨h, h'⟩ | ⟨h, h'⟩ | ⟨h, h'⟩
    all_goals
      go_wp2
      go_meet
      exact ⟨int_eq (by have := HL.out; omega), rfl⟩
  case rest =>
  obtain ⟨rfl, rfl⟩ := hcut
  have hlast : 0 ≤ last ∧ last ≤ 1000000 := by have := HL.out; omega
  obtain ⟨hlast0, hlast1⟩ := hlast
  go_wp2_with fail
  refine (partedBy_l a b va vb w HA.out HB.out hl hl2).mono ?_
  rintro x w1 ⟨h1, rfl, hpa, hh1, hb1⟩
  have HPA := Lib.hid hpa
  have HB1 := Lib.hid hb1
  clear hpa hb1
  go_wp2_with fail
  refine (turns_l a b va vb w1 (readsM_below HA.out HB1.out) (readsM_below HB.out HB1.out) hl hl2).mono ?_
  rintro x w2 ⟨u, rfl, hown, hb2⟩
  have HB2 := Lib.hid hb2
  have HB3 := Lib.hid (HB1.out.trans (hb2.mono HB1.out.size))
  have HK : Hid (∀ p, PartAt w2 w.heap.size h1 (h1 + 1) a b p) := Lib.hid fun p => parted_keep (HPA.out p) fun k hk => hb2.block k (by omega)
  obtain ⟨ut, ct, hu, _⟩ := own_slice hown
  have HTS := Lib.hid hown
  have HTL := Lib.hid (R.turns_len a b)
  subst hu
  clear hb2 hown HPA
  have hnl : (R.sorted (R.turnsL a b)).length ≤ 3000 := by have := HTL.out; omega
  obtain ⟨T, HT⟩ : ∃ T, Hid (R.sorted (R.turnsL a b) = T) := ⟨_, Lib.hid rfl⟩
  have HROW : Hid (∀ k wr (h : k < T.length), But (fun k => w.heap.size ≤ k ∧ k ≤ h1 + 1) w2 wr → ∃ g, ut = some ⟨g, 0, none⟩ ∧ wr.cell? ⟨g, k, none⟩ = some (.int .i64 T[k])) := Lib.hid fun k wr h hbu => by
    have ho := HTS.out
    rw [HT.out] at ho
    rcases ho.2 with ⟨_, h0⟩ | ⟨g, cap, cur, hv, hbase, hg, _⟩
    · omega
    · cases hv
      refine ⟨g, rfl, ?_⟩
      have hc := ho.cellAt k (by omega)
      have hz : (zCells T)[k]? = some (.int .i64 T[k]) := by simp [zCells, h]
      rw [hz] at hc
      exact cell_same hc (hbu.block g (lt_of_block hg) (by omega))
  rw [HT.out] at hnl ⊢
  clear HTS HTL
  go_wp2
  go_loopw [24] (fun i wr => ∃ k : Nat, i = .int .i64 k ∧ k ≤ T.length ∧ ForkAt w w1 w2 h1 a b k wr) (fun i _ => T.length - (intOf i).toNat)
  case atStart => exact ⟨0, rfl, Nat.zero_le _, ⟨1, HK.out 1, fun x hx => R.turns_pos (List.mem_of_mem_drop hx)⟩, by simp, But.refl _ _⟩
  case round =>
    obtain ⟨k, rfl, hk, hat⟩ := hrel
    have HAT := Lib.hid hat
    have HBE : Hid (Below w.heap.size w wr) := Lib.hid (HB3.out.trans (hat.but.below HB3.out.size fun k hk => hk.1))
    clear hat HK
    by_cases hlt : k < T.length
    · obtain ⟨g, rfl, c0⟩ := HROW.out k wr hlt HAT.out.but
      have hk1 : (k : Int) < (T.length : Int) := by omega
      have hTk : (R.sorted (R.turnsL a b))[k]'(by rw [HT.out]; exact hlt) = T[k] := by simp only [HT.out]
      have HP := Lib.hid (show 1 ≤ T[k] by rw [← hTk]; exact R.turns_pos (List.getElem_mem _))
      have HPA : Hid (max (min la lb) 0 < T[k] → last = r) := Lib.hid fun h => by
        rw [← HL.out, ← HR.out]
        exact (R.fork_whole (i := k) HAT.out.all fun hi => by rw [hTk]; exact h).symm
      have HPB : Hid (T[k] ≤ max (min la lb) 0 → R.agree a b T[k] = false → T[k] - 1 = r) := Lib.hid fun h h2 => by
        rw [← HR.out, ← hTk]
        exact (R.fork_part (i := k) (by rw [HT.out]; exact hlt) HAT.out.all (by rw [hTk]; exact h) (by rw [hTk]; exact h2)).symm
      have HPC : Hid (R.agree a b T[k] = true → (∀ x ∈ (R.sorted (R.turnsL a b)).take (k + 1), R.agree a b x = true) ∧ ∀ x ∈ (R.sorted (R.turnsL a b)).drop (k + 1), T[k] ≤ x) := Lib.hid fun h => by
        have hs := R.sorted_rise (R.turnsL a b)
        have ha := HAT.out.all
        rw [HT.out] at hs ha ⊢
        constructor
        · intro x hx
          rw [List.take_succ_eq_append_getElem hlt, List.mem_append, List.mem_singleton] at hx
          rcases hx with hx | rfl
          · exact ha x hx
          · exact h
        · intro x hx
          exact R.drop_ge hs hlt x (by rw [List.drop_eq_getElem_cons hlt]; exact List.mem_cons_of_mem _ hx)
      obtain ⟨p0, HPP, hp0⟩ : ∃ p, Hid (PartAt wr w.heap.size h1 (h1 + 1) a b p) ∧ p ≤ T[k] := by
        obtain ⟨p, hp, hle⟩ := HAT.out.part
        refine ⟨p, Lib.hid hp, hle _ ?_⟩
        rw [HT.out, List.drop_eq_getElem_cons hlt]
        exact List.mem_cons_self
      have HBU := Lib.hid HAT.out.but
      clear hTk HAT
      rw [HL.out] at HPA HPB
      generalize T[k] = t at *
      by_cases htl : last < t
      · have HE := Lib.hid (HPA.out htl)
        go_wp2
        go_ret
        rw [HE.out]
        exact ⟨rfl, HBE.out⟩
      · obtain ⟨q, HQ⟩ : ∃ q, Hid (R.agree a b t = q) := ⟨_, Lib.hid rfl⟩
        have ht1 := HP.out
        go_wp2_with fail
        refine (parted_ask wr w.heap.size h1 (h1 + 1) a b p0 t q HPP.out hp0 HQ).mono ?_
        rintro x w3 ⟨rfl, hp3, hb3⟩
        have HP3 := Lib.hid hp3
        have HB3' := Lib.hid hb3
        have HBN := Lib.hid (HBE.out.trans (hb3.below HBE.out.size fun k hk => hk.1))
        clear hp3 hb3
        cases q
        · have HE := Lib.hid (HPB.out (by omega) HQ.out)
          dsimp only [Bool.not_false]
          go_wp2
          go_ret
          rw [← HE.out]
          exact ⟨rfl, HBN.out⟩
        · have HC := Lib.hid (HPC.out HQ.out)
          dsimp only [Bool.not_true]
          go_wp2
          go_roundw
          case rel => exact ⟨k + 1, by go_num, by omega, ⟨t, HP3.out, HC.out.2⟩, HC.out.1, HBU.out.trans HB3'.out⟩
          case measure => simp [intOf]; omega
    · have HE := Lib.hid (show last = r by
        rw [← HL.out, ← HR.out]
        exact (R.fork_whole (i := k) HAT.out.all fun hi => absurd hi (by rw [HT.out]; exact hlt)).symm)
      go_wp2
      go_ret
      rw [HE.out]
      exact ⟨rfl, HBE.out⟩
end Go.Proofs.Ytfhopgficckjkaa
