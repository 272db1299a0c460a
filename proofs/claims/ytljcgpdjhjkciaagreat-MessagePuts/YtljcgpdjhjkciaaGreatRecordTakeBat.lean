/-
  Walk of TakeBatch of package event, once more: the events that it takes lie in a row of the call's own.
-/
import Derived.Test.YtljcgpdjhjkciaaGreatEventReader4
namespace Go.Proofs.YtljcgpdjhjkciaaGreat
open Go.RowKit
attribute [local go_sem] ext_Bd ext_Bl ext_Bt toList_B add_B size_B get_Bt

set_option maxHeartbeats 4000000 in
set_option maxRecDepth 100000 in
theorem ETakeBat_own (s : List UInt8) (b : E.Bat) (r : List UInt8) (w : World) (hs : s.length ≤ 1000000) (H : Hid (batRes (E.takeBat s) = (b, r, 0))) :
    Calls Tryz.prog 55 #[.string (B s)] w fun x w' => ∃ v, x = .returned (.tuple #[batV b v, .string (B r), .int .i64 0]) ∧ w'.ownsRow w.heap.size 55 2 v b.events.length (evCells b.events) ∧ Below w.heap.size w w' := by
  have hmf : ∀ (fn : Fn) (first cap : Array Value) (w : World), (Instr.makeFunc fn first cap).run Tryz.prog w = .ok (.func fn first cap) w := fun _ _ _ _ => rfl
  rw [tb_eq] at H
  obtain ⟨hA, hR, hF, hB⟩ := three_new w (.cells #[.string (B []), .int .i64 0, .int .i64 0, .int .i64 0, .slice none 0 0] 28) (.cells #[.string (B s), .string (B []), .string (B []), .string (B []), .int .i64 0, .int .i64 0, .int .i64 0, .slice none 0 0] 162)
    (.cells #[mV 77 (w.heap.size + 1), mV 78 (w.heap.size + 1), mV 79 (w.heap.size + 1), mV 80 (w.heap.size + 1), mV 81 (w.heap.size + 1)] 164)
  have HA := Lib.hid hA
  have HF := Lib.hid hF
  have HB := Lib.hid hB
  have HR := Lib.hid (show RdAt _ (w.heap.size + 1) s [] [] [] 0 0 0 (.slice none 0 0) from hR)
  clear hA hR hF hB
  go_enter Tryz.func55, Tryz.ntmps55
  go_wp2_with fail
  refine (rd_five (g := w.heap.size + 1) (gs := w.heap.size + 1 + 1) HR.out hs HF.out (by omega)).mono ?_
  rintro x w1 (⟨rfl, hg, st, ex, se, sq, evs, r2, v, kk, dd, htb, hsm, hrd, hown⟩ | ⟨c2, hc, rfl, hg, htb⟩)
  · have HA1 := Lib.hid (block_kept HA.out hg (by omega))
    have hb1 : Below w.heap.size w w1 := HB.out.grown hg HB.out.size (fun k hk => by cases hk; omega)
    have HB1 := Lib.hid hb1
    have hsz : w.heap.size + 1 + 1 + 1 = (((w.alloc (.cells #[.string (B []), .int .i64 0, .int .i64 0, .int .i64 0, .slice none 0 0] 28)).alloc (.cells #[.string (B s), .string (B []), .string (B []), .string (B []), .int .i64 0, .int .i64 0, .int .i64 0, .slice none 0 0] 162)).alloc
      (.cells #[mV 77 (w.heap.size + 1), mV 78 (w.heap.size + 1), mV 79 (w.heap.size + 1), mV 80 (w.heap.size + 1), mV 81 (w.heap.size + 1)] 164)).heap.size := by simp
    rw [← hsz] at hown
    have HOW := Lib.hid hown
    have HRD := Lib.hid hrd
    have HSM := Lib.hid hsm
    have HRE := Lib.hid (readsE_own hown)
    obtain ⟨pa, pc, hvv, -⟩ := readsE_own hown
    subst hvv
    obtain ⟨c0, -, -, c3, c4, c5, c6, c7⟩ := hrd.cells
    obtain ⟨f, HFI⟩ : ∃ f, Hid (E.fits ⟨st, ex, se, sq, evs⟩ = f) := ⟨_, Lib.hid rfl⟩
    have hev := H.out
    rw [htb, HFI.out] at hev
    clear hg hb1 HA HF HB HR hsz hrd hown hsm htb H
    by_cases hf : f = 0
    · subst hf
      rw [if_pos rfl] at hev
      cases hev
      go_wp2_with fail
      refine (Fits_at ⟨st, ex, se, sq, evs⟩ (.slice pa evs.length pc) 0 w1 HRE.out HSM.out HFI).mono ?_
      rintro x w2 ⟨rfl, hb2⟩
      have HA2 := Lib.hid (block_below HA1.out hb2)
      have HB2 := Lib.hid (HB1.out.trans (hb2.mono HB1.out.size))
      have hrd2 := HRD.out.below hb2
      have HOW2 := Lib.hid (own_below5 HOW.out hb2)
      clear c0 c3 c4 c5 c6 c7 hb2
      obtain ⟨c0, -, -, c3, c4, c5, c6, c7⟩ := hrd2.cells
      clear hrd2
      have a0 := block_cell HA2.out 0
      have a1 := block_cell HA2.out 1
      have a2 := block_cell HA2.out 2
      have a3 := block_cell HA2.out 3
      have a4 := block_cell HA2.out 4
      simp at a0 a1 a2 a3 a4
      have l0 := block_loose HA2.out 0
      have l1 := block_loose HA2.out 1
      have l2 := block_loose HA2.out 2
      have l3 := block_loose HA2.out 3
      have l4 := block_loose HA2.out 4
      go_wp2
      go_region
      all_goals
        go_wp2
        have HK : Hid ((((((w2.setCell ⟨w.heap.size, 0, none⟩ (.string (B st))).setCell ⟨w.heap.size, 1, none⟩ (.int .i64 ex)).setCell ⟨w.heap.size, 2, none⟩ (.int .i64 se)).setCell ⟨w.heap.size, 3, none⟩ (.int .i64 sq)).setCell ⟨w.heap.size, 4, none⟩ (.slice pa evs.length pc)).drew.heap[w.heap.size]? = some (.cells #[.string (B st), .int .i64 ex, .int .i64 se, .int .i64 sq, .slice pa evs.length pc] 28 (0, 0))) := Lib.hid (set_five HA2.out)
        have HB3 : Hid (Below w.heap.size w (((((w2.setCell ⟨w.heap.size, 0, none⟩ (.string (B st))).setCell ⟨w.heap.size, 1, none⟩ (.int .i64 ex)).setCell ⟨w.heap.size, 2, none⟩ (.int .i64 se)).setCell ⟨w.heap.size, 3, none⟩ (.int .i64 sq)).setCell ⟨w.heap.size, 4, none⟩ (.slice pa evs.length pc)).drew) := Lib.hid (below_five HB2.out (Nat.le_refl _) _ _ _ _ _).drew
        have HR3 : Hid (World.ownsRow (((((w2.setCell ⟨w.heap.size, 0, none⟩ (.string (B st))).setCell ⟨w.heap.size, 1, none⟩ (.int .i64 ex)).setCell ⟨w.heap.size, 2, none⟩ (.int .i64 se)).setCell ⟨w.heap.size, 3, none⟩ (.int .i64 sq)).setCell ⟨w.heap.size, 4, none⟩ (.slice pa evs.length pc)).drew w.heap.size 55 2 (.slice pa evs.length pc) evs.length (evCells evs)) := Lib.hid (own_base5 (HOW2.out.kept (grown_drew (grown_five w2 w.heap.size _ _ _ _ _)) (.inr (own_ne HOW2.out (by omega)).symm)) (by omega))
        generalize (((((w2.setCell ⟨w.heap.size, 0, none⟩ (.string (B st))).setCell ⟨w.heap.size, 1, none⟩ (.int .i64 ex)).setCell ⟨w.heap.size, 2, none⟩ (.int .i64 se)).setCell ⟨w.heap.size, 3, none⟩ (.int .i64 sq)).setCell ⟨w.heap.size, 4, none⟩ (.slice pa evs.length pc)).drew = w9 at *
        have k0 := block_cell HK.out 0
        have k1 := block_cell HK.out 1
        have k2 := block_cell HK.out 2
        have k3 := block_cell HK.out 3
        have k4 := block_cell HK.out 4
        simp at k0 k1 k2 k3 k4
        exact bodyPost_ret (v := .tuple #[batV ⟨st, ex, se, sq, evs⟩ (.slice pa evs.length pc), .string (B r), .int .i64 0]) (by simp [results, Tryz.results55, go_sem, k0, k1, k2, k3, k4]) rfl ⟨_, rfl, HR3.out, HB3.out⟩
    · rw [if_neg hf] at hev
      cases hev
  · have hev := H.out
    rw [htb] at hev
    cases hev
    exact absurd hc (Nat.lt_irrefl _)
end Go.Proofs.YtljcgpdjhjkciaaGreat
