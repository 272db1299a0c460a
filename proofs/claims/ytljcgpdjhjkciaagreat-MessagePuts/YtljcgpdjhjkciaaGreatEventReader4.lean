/-
  The walk of TakeBatch of package event.
-/
import Derived.Test.YtljcgpdjhjkciaaGreatEventReader3
namespace Go.Proofs.YtljcgpdjhjkciaaGreat
open Go.RowKit
attribute [local go_sem] ext_Bd ext_Bl ext_Bt toList_B add_B size_B get_Bt

/-- A batch's bytes, taken part by part. -/
def tb5 (st : List UInt8) (ex se sq : Int) (l : List UInt8) : K.Rd E.Bat := K.bind (countEvs l) fun evs r => if E.fits ⟨st, ex, se, sq, evs⟩ = 0 then Sum.inl (⟨st, ex, se, sq, evs⟩, r) else Sum.inr 2
def tb4 (st : List UInt8) (ex se : Int) (l : List UInt8) : K.Rd E.Bat := K.bind (N.takeL l) fun sq r => tb5 st ex se sq r
def tb3 (st : List UInt8) (ex : Int) (l : List UInt8) : K.Rd E.Bat := K.bind (N.takeL l) fun se r => tb4 st ex se r
def tb2 (st : List UInt8) (l : List UInt8) : K.Rd E.Bat := K.bind (N.takeL l) fun ex r => tb3 st (N.zag ex) r
def tb1 (l : List UInt8) : K.Rd E.Bat := K.bind (N.takeT l 200) fun st r => tb2 st r
theorem tb_eq (l : List UInt8) : E.takeBat l = tb1 l := by
  unfold E.takeBat tb1 tb2 tb3 tb4 tb5 countEvs
  simp only [E.bind_assoc, E.bind_if]

def fiveFs (k : Nat) : Nat := if k = 0 then 77 else if k = 1 then 78 else if k = 2 then 79 else if k = 3 then 80 else 81
def FiveS (w : World) (g : Nat) (s : List UInt8) (n : Nat) (w' : World) : Prop :=
  w.grownBy w' (some g) ∧ match n with
    | 0 => RdAt w' g s [] [] [] 0 0 0 (.slice none 0 0)
    | 1 => ∃ st r, tb1 s = tb2 st r ∧ r.length ≤ s.length ∧ st.length ≤ 200 ∧ RdAt w' g r [] [] st 0 0 0 (.slice none 0 0)
    | 2 => ∃ st ex r, tb1 s = tb3 st ex r ∧ r.length ≤ s.length ∧ st.length ≤ 200 ∧ RdAt w' g r [] [] st ex 0 0 (.slice none 0 0)
    | 3 => ∃ st ex se r, tb1 s = tb4 st ex se r ∧ r.length ≤ s.length ∧ st.length ≤ 200 ∧ RdAt w' g r [] [] st ex se 0 (.slice none 0 0)
    | 4 => ∃ st ex se sq r, tb1 s = tb5 st ex se sq r ∧ r.length ≤ s.length ∧ st.length ≤ 200 ∧ RdAt w' g r [] [] st ex se sq (.slice none 0 0)
    | _ => ∃ st ex se sq evs r v kk dd, (tb1 s = if E.fits ⟨st, ex, se, sq, evs⟩ = 0 then Sum.inl (⟨st, ex, se, sq, evs⟩, r) else Sum.inr 2) ∧ E.Small ⟨st, ex, se, sq, evs⟩ ∧ RdAt w' g r kk dd st ex se sq v ∧ w'.ownsRow w.heap.size 55 2 v evs.length (evCells evs)
theorem evs_small {l r : List UInt8} {evs : List E.Ev} (h : countEvs l = Sum.inl (evs, r)) : evs.length ≤ 8 ∧ ∀ e ∈ evs, e.1.length ≤ 1000 ∧ e.2.length ≤ 1000 := by
  obtain ⟨m, q, h1, h2⟩ := K.bind_inv h
  by_cases h8 : 8 < m
  · rw [if_pos h8] at h2; cases h2
  · rw [if_neg h8] at h2
    obtain ⟨_, hl, ha⟩ := K.takeN_inv E.partsC m q evs r h2
    refine ⟨by omega, fun e he => ?_⟩
    have := ha e he
    unfold K.txtOk at this
    omega
theorem own_base5 {w : World} {a b : Nat} {e : TypeId} {size : Nat} {v : Value} {n : Nat} {xs : List Value} (h : w.ownsRow a e size v n xs) (hab : b ≤ a) : w.ownsRow b e size v n xs := by
  refine ⟨h.1, ?_⟩
  rcases h.2 with hn | ⟨g, cap, cur, hv, hb, rest⟩
  · exact .inl hn
  · exact .inr ⟨g, cap, cur, hv, by omega, rest⟩
theorem own_below5 {w w' : World} {base : Nat} {e : TypeId} {size : Nat} {v : Value} {n : Nat} {xs : List Value} (h : w.ownsRow base e size v n xs) (hb : Below w.heap.size w w') : w'.ownsRow base e size v n xs := by
  refine ⟨h.1, ?_⟩
  rcases h.2 with hn | ⟨g, cap, cur, rfl, hbg, hg, rest⟩
  · exact .inl hn
  · refine .inr ⟨g, cap, cur, rfl, hbg, ?_, rest⟩
    rw [hb.block g (Array.getElem?_eq_some_iff.1 hg).1]
    exact hg
theorem readsE_none (w : World) : ReadsE w (.slice none 0 0) [] := ⟨none, 0, rfl, Nat.le_refl _, fun _ => rfl, fun i hi => by simp at hi⟩
theorem takeT_small {l a r : List UInt8} (h : N.takeT l 200 = Sum.inl (a, r)) : a.length ≤ 200 := ((K.texts (most := 200) (by omega)).inv l a r h).2
theorem rd_five {w : World} {g gs : Nat} {s : List UInt8} {t : TypeId} (h : RdAt w g s [] [] [] 0 0 0 (.slice none 0 0)) (hl : s.length ≤ 1000000)
    (hgs : w.heap[gs]? = some (.cells #[mV 77 g, mV 78 g, mV 79 g, mV 80 g, mV 81 g] t (0, 0))) (hne : gs ≠ g) :
    Calls Tryz.prog 76 #[.slice (some ⟨gs, 0, none⟩) 5 5] w fun x w' => (x = .returned (.int .i64 0) ∧ FiveS w g s 5 w') ∨ ∃ c : Nat, 0 < c ∧ x = .returned (.int .i64 c) ∧ w.grownBy w' (some g) ∧ tb1 s = Sum.inr c := by
  refine inOrder_run gs 5 g fiveFs (FiveS w g s) (fun c w' => w.grownBy w' (some g) ∧ tb1 s = Sum.inr c) (by omega) ?_ ?_ ?_ w ?_
  · intro n hn
    match n, hn with
    | 0, _ => exact .inr (.inr (.inl rfl))
    | 1, _ => exact .inr (.inr (.inr (.inl rfl)))
    | 2, _ => exact .inr (.inr (.inr (.inr (.inl rfl))))
    | 3, _ => exact .inr (.inr (.inr (.inr (.inr (.inl rfl)))))
    | 4, _ => exact .inr (.inr (.inr (.inr (.inr (.inr rfl)))))
  · intro n wr hn hs
    rw [cell_of_block hgs hs.1 hne]
    match n, hn with
    | 0, _ => rfl
    | 1, _ => rfl
    | 2, _ => rfl
    | 3, _ => rfl
    | 4, _ => rfl
  · intro n wr hn hs
    match n, hn, hs with
    | 0, _, hs =>
      refine (rd_stream hs.2 hl).mono ?_
      rintro x w' ⟨hg, ⟨a, r, ht, rfl, hr⟩ | ⟨c, ht, rfl⟩⟩
      · exact .inl ⟨rfl, hs.1.trans hg, a, r, K.bind_ok _ ht, takeT_len ht, takeT_small ht, hr⟩
      · exact .inr ⟨c, K.txt_errs _ _ _ ht, rfl, hs.1.trans hg, K.bind_bad _ ht⟩
    | 1, _, hs =>
      obtain ⟨hg0, st, r0, e0, l0, s0, h0⟩ := hs
      refine (rd_expect h0 (by omega)).mono ?_
      rintro x w' ⟨hg, ⟨a, r, ht, rfl, hr⟩ | ⟨c, ht, rfl⟩⟩
      · exact .inl ⟨rfl, hg0.trans hg, st, _, r, e0.trans (K.bind_ok _ ht), by have := takeL_len ht; omega, s0, hr⟩
      · exact .inr ⟨c, K.num_errs _ _ ht, rfl, hg0.trans hg, e0.trans (K.bind_bad _ ht)⟩
    | 2, _, hs =>
      obtain ⟨hg0, st, ex, r0, e0, l0, s0, h0⟩ := hs
      refine (rd_session h0 (by omega)).mono ?_
      rintro x w' ⟨hg, ⟨a, r, ht, rfl, hr⟩ | ⟨c, ht, rfl⟩⟩
      · exact .inl ⟨rfl, hg0.trans hg, st, ex, _, r, e0.trans (K.bind_ok _ ht), by have := takeL_len ht; omega, s0, hr⟩
      · exact .inr ⟨c, K.num_errs _ _ ht, rfl, hg0.trans hg, e0.trans (K.bind_bad _ ht)⟩
    | 3, _, hs =>
      obtain ⟨hg0, st, ex, se, r0, e0, l0, s0, h0⟩ := hs
      refine (rd_seq h0 (by omega)).mono ?_
      rintro x w' ⟨hg, ⟨a, r, ht, rfl, hr⟩ | ⟨c, ht, rfl⟩⟩
      · exact .inl ⟨rfl, hg0.trans hg, st, ex, se, _, r, e0.trans (K.bind_ok _ ht), by have := takeL_len ht; omega, s0, hr⟩
      · exact .inr ⟨c, K.num_errs _ _ ht, rfl, hg0.trans hg, e0.trans (K.bind_bad _ ht)⟩
    | 4, _, hs =>
      obtain ⟨hg0, st, ex, se, sq, r0, e0, l0, s0, h0⟩ := hs
      refine (rd_events h0 (by omega)).mono ?_
      rintro x w' ⟨hg, ⟨evs, r, v, ht, rfl, ⟨kk, dd, hr⟩, hown⟩ | ⟨c, hc, ht, rfl⟩⟩
      · exact .inl ⟨rfl, hg0.trans hg, st, ex, se, sq, evs, r, v, kk, dd, e0.trans (K.bind_ok _ ht), ⟨by dsimp only; omega, fun _ e he => by have := (evs_small ht).2 e he; omega⟩, hr, own_base5 hown hg0.size⟩
      · exact .inr ⟨c, hc, rfl, hg0.trans hg, e0.trans (K.bind_bad _ ht)⟩
  · exact ⟨⟨rfl, rfl, rfl, Nat.le_refl _, fun _ _ _ => rfl⟩, h⟩
theorem set_five {w : World} {g : Nat} {x1 x2 x3 x4 x5 a b c d e : Value} {t : TypeId} (h : w.heap[g]? = some (.cells #[x1, x2, x3, x4, x5] t (0, 0))) :
    (((((w.setCell ⟨g, 0, none⟩ a).setCell ⟨g, 1, none⟩ b).setCell ⟨g, 2, none⟩ c).setCell ⟨g, 3, none⟩ d).setCell ⟨g, 4, none⟩ e).heap[g]? = some (.cells #[a, b, c, d, e] t (0, 0)) :=
  set_block (set_block (set_block (set_block (set_block h 0 a) 1 b) 2 c) 3 d) 4 e
theorem below_five {w w' : World} {g : Nat} (h : Below w.heap.size w w') (hg : w.heap.size ≤ g) (a b c d e : Value) :
    Below w.heap.size w (((((w'.setCell ⟨g, 0, none⟩ a).setCell ⟨g, 1, none⟩ b).setCell ⟨g, 2, none⟩ c).setCell ⟨g, 3, none⟩ d).setCell ⟨g, 4, none⟩ e) :=
  ((((h.setCell (p := ⟨g, 0, none⟩) hg a).setCell (p := ⟨g, 1, none⟩) hg b).setCell (p := ⟨g, 2, none⟩) hg c).setCell (p := ⟨g, 3, none⟩) hg d).setCell (p := ⟨g, 4, none⟩) hg e
theorem grown_five (w : World) (g : Nat) (a b c d e : Value) : w.grownBy (((((w.setCell ⟨g, 0, none⟩ a).setCell ⟨g, 1, none⟩ b).setCell ⟨g, 2, none⟩ c).setCell ⟨g, 3, none⟩ d).setCell ⟨g, 4, none⟩ e) (some g) :=
  grown_set (grown_set (grown_set (grown_set (grown_set ⟨rfl, rfl, rfl, Nat.le_refl _, fun _ _ _ => rfl⟩ 0 a) 1 b) 2 c) 3 d) 4 e

set_option maxHeartbeats 4000000 in
set_option maxRecDepth 100000 in
theorem ETakeBat_at (s : List UInt8) (b : E.Bat) (r : List UInt8) (c : Nat) (w : World) (hs : s.length ≤ 1000000) (H : Hid (batRes (E.takeBat s) = (b, r, c))) :
    Calls Tryz.prog 55 #[.string (B s)] w fun x w' => ∃ v, x = .returned (.tuple #[batV b v, .string (B r), .int .i64 c]) ∧ ReadsE w' v b.events ∧ Below w.heap.size w w' := by
  have hmf : ∀ (fn : Fn) (first cap : Array Value) (w : World), (Instr.makeFunc fn first cap).run Tryz.prog w = .ok (.func fn first cap) w := fun _ _ _ _ => rfl
  rw [tb_eq] at H
  obtain ⟨hA, hR, hF, hB⟩ := three_new w (.cells #[.string (B []), .int .i64 0, .int .i64 0, .int .i64 0, .slice none 0 0] 28) (.cells #[.string (B s), .string (B []), .string (B []), .string (B []), .int .i64 0, .int .i64 0, .int .i64 0, .slice none 0 0] 162)
    (.cells #[mV 77 (w.heap.size + 1), mV 78 (w.heap.size + 1), mV 79 (w.heap.size + 1), mV 80 (w.heap.size + 1), mV 81 (w.heap.size + 1)] 164)
  have HA := Lib.hid hA
  have HF := Lib.hid hF
  have HB := Lib.hid hB
  have HR := Lib.hid (show RdAt _ (w.heap.size + 1) s [] [] [] 0 0 0 (.slice none 0 0) from hR)
  clear hA hR hF hB
  go_enter Tryz.func55, Tryz.ntmps55
  go_wp2_with fail
  refine (rd_five (g := w.heap.size + 1) (gs := w.heap.size + 1 + 1) HR.out hs HF.out (by omega)).mono ?_
  rintro x w1 (⟨rfl, hg, st, ex, se, sq, evs, r2, v, kk, dd, htb, hsm, hrd, hown⟩ | ⟨c2, hc, rfl, hg, htb⟩)
  · have HA1 := Lib.hid (block_kept HA.out hg (by omega))
    have hb1 : Below w.heap.size w w1 := HB.out.grown hg HB.out.size (fun k hk => by cases hk; omega)
    have HB1 := Lib.hid hb1
    have hsz : w.heap.size + 1 + 1 + 1 = (((w.alloc (.cells #[.string (B []), .int .i64 0, .int .i64 0, .int .i64 0, .slice none 0 0] 28)).alloc (.cells #[.string (B s), .string (B []), .string (B []), .string (B []), .int .i64 0, .int .i64 0, .int .i64 0, .slice none 0 0] 162)).alloc
      (.cells #[mV 77 (w.heap.size + 1), mV 78 (w.heap.size + 1), mV 79 (w.heap.size + 1), mV 80 (w.heap.size + 1), mV 81 (w.heap.size + 1)] 164)).heap.size := by simp
    rw [← hsz] at hown
    have HOW := Lib.hid hown
    have HRD := Lib.hid hrd
    have HSM := Lib.hid hsm
    have HRE := Lib.hid (readsE_own hown)
    obtain ⟨pa, pc, hvv, -⟩ := readsE_own hown
    subst hvv
    obtain ⟨c0, -, -, c3, c4, c5, c6, c7⟩ := hrd.cells
    obtain ⟨f, HFI⟩ : ∃ f, Hid (E.fits ⟨st, ex, se, sq, evs⟩ = f) := ⟨_, Lib.hid rfl⟩
    have hev := H.out
    rw [htb, HFI.out] at hev
    clear hg hb1 HA HF HB HR hsz hrd hown hsm htb H
    by_cases hf : f = 0
    · subst hf
      rw [if_pos rfl] at hev
      cases hev
      go_wp2_with fail
      refine (Fits_at ⟨st, ex, se, sq, evs⟩ (.slice pa evs.length pc) 0 w1 HRE.out HSM.out HFI).mono ?_
      rintro x w2 ⟨rfl, hb2⟩
      have HA2 := Lib.hid (block_below HA1.out hb2)
      have HB2 := Lib.hid (HB1.out.trans (hb2.mono HB1.out.size))
      have hrd2 := HRD.out.below hb2
      have HOW2 := Lib.hid (own_below5 HOW.out hb2)
      clear c0 c3 c4 c5 c6 c7 hb2
      obtain ⟨c0, -, -, c3, c4, c5, c6, c7⟩ := hrd2.cells
      clear hrd2
      have a0 := block_cell HA2.out 0
      have a1 := block_cell HA2.out 1
      have a2 := block_cell HA2.out 2
      have a3 := block_cell HA2.out 3
      have a4 := block_cell HA2.out 4
      simp at a0 a1 a2 a3 a4
      have l0 := block_loose HA2.out 0
      have l1 := block_loose HA2.out 1
      have l2 := block_loose HA2.out 2
      have l3 := block_loose HA2.out 3
      have l4 := block_loose HA2.out 4
      go_wp2
      go_region
      all_goals
        go_wp2
        have HK : Hid ((((((w2.setCell ⟨w.heap.size, 0, none⟩ (.string (B st))).setCell ⟨w.heap.size, 1, none⟩ (.int .i64 ex)).setCell ⟨w.heap.size, 2, none⟩ (.int .i64 se)).setCell ⟨w.heap.size, 3, none⟩ (.int .i64 sq)).setCell ⟨w.heap.size, 4, none⟩ (.slice pa evs.length pc)).drew.heap[w.heap.size]? = some (.cells #[.string (B st), .int .i64 ex, .int .i64 se, .int .i64 sq, .slice pa evs.length pc] 28 (0, 0))) := Lib.hid (set_five HA2.out)
        have HB3 : Hid (Below w.heap.size w (((((w2.setCell ⟨w.heap.size, 0, none⟩ (.string (B st))).setCell ⟨w.heap.size, 1, none⟩ (.int .i64 ex)).setCell ⟨w.heap.size, 2, none⟩ (.int .i64 se)).setCell ⟨w.heap.size, 3, none⟩ (.int .i64 sq)).setCell ⟨w.heap.size, 4, none⟩ (.slice pa evs.length pc)).drew) := Lib.hid (below_five HB2.out (Nat.le_refl _) _ _ _ _ _).drew
        have HR3 : Hid (ReadsE (((((w2.setCell ⟨w.heap.size, 0, none⟩ (.string (B st))).setCell ⟨w.heap.size, 1, none⟩ (.int .i64 ex)).setCell ⟨w.heap.size, 2, none⟩ (.int .i64 se)).setCell ⟨w.heap.size, 3, none⟩ (.int .i64 sq)).setCell ⟨w.heap.size, 4, none⟩ (.slice pa evs.length pc)).drew (.slice pa evs.length pc) evs) := Lib.hid (readsE_own (HOW2.out.kept (grown_drew (grown_five w2 w.heap.size _ _ _ _ _)) (.inr (own_ne HOW2.out (by omega)).symm)))
        generalize (((((w2.setCell ⟨w.heap.size, 0, none⟩ (.string (B st))).setCell ⟨w.heap.size, 1, none⟩ (.int .i64 ex)).setCell ⟨w.heap.size, 2, none⟩ (.int .i64 se)).setCell ⟨w.heap.size, 3, none⟩ (.int .i64 sq)).setCell ⟨w.heap.size, 4, none⟩ (.slice pa evs.length pc)).drew = w9 at *
        have k0 := block_cell HK.out 0
        have k1 := block_cell HK.out 1
        have k2 := block_cell HK.out 2
        have k3 := block_cell HK.out 3
        have k4 := block_cell HK.out 4
        simp at k0 k1 k2 k3 k4
        exact bodyPost_ret (v := .tuple #[batV ⟨st, ex, se, sq, evs⟩ (.slice pa evs.length pc), .string (B r), .int .i64 0]) (by simp [results, Tryz.results55, go_sem, k0, k1, k2, k3, k4]) rfl ⟨_, rfl, HR3.out, HB3.out⟩
    · rw [if_neg hf] at hev
      cases hev
      have hfi : ((f : Int) == 0) = false := beq_eq_false_iff_ne.2 (by omega)
      go_wp2_with fail
      refine (Fits_at ⟨st, ex, se, sq, evs⟩ _ f w1 HRE.out HSM.out HFI).mono ?_
      rintro x w2 ⟨rfl, hb2⟩
      have HA2 := Lib.hid (block_below HA1.out hb2)
      have HB2 := Lib.hid (HB1.out.trans (hb2.mono HB1.out.size))
      clear c0 c3 c4 c5 c6 c7 hb2
      have a0 := block_cell HA2.out 0
      have a1 := block_cell HA2.out 1
      have a2 := block_cell HA2.out 2
      have a3 := block_cell HA2.out 3
      have a4 := block_cell HA2.out 4
      simp at a0 a1 a2 a3 a4
      have l0 := block_loose HA2.out 0
      have l1 := block_loose HA2.out 1
      have l2 := block_loose HA2.out 2
      have l3 := block_loose HA2.out 3
      have l4 := block_loose HA2.out 4
      go_wp2
      have HK : Hid ((((((w2.setCell ⟨w.heap.size, 0, none⟩ (.string ⟨#[]⟩)).setCell ⟨w.heap.size, 1, none⟩ (.int .i64 0)).setCell ⟨w.heap.size, 2, none⟩ (.int .i64 0)).setCell ⟨w.heap.size, 3, none⟩ (.int .i64 0)).setCell ⟨w.heap.size, 4, none⟩ (.slice none 0 0)).heap[w.heap.size]? = some (.cells #[.string ⟨#[]⟩, .int .i64 0, .int .i64 0, .int .i64 0, .slice none 0 0] 28 (0, 0))) := Lib.hid (set_five HA2.out)
      have HB3 : Hid (Below w.heap.size w (((((w2.setCell ⟨w.heap.size, 0, none⟩ (.string ⟨#[]⟩)).setCell ⟨w.heap.size, 1, none⟩ (.int .i64 0)).setCell ⟨w.heap.size, 2, none⟩ (.int .i64 0)).setCell ⟨w.heap.size, 3, none⟩ (.int .i64 0)).setCell ⟨w.heap.size, 4, none⟩ (.slice none 0 0))) := Lib.hid (below_five HB2.out (Nat.le_refl _) _ _ _ _ _)
      generalize (((((w2.setCell ⟨w.heap.size, 0, none⟩ (.string ⟨#[]⟩)).setCell ⟨w.heap.size, 1, none⟩ (.int .i64 0)).setCell ⟨w.heap.size, 2, none⟩ (.int .i64 0)).setCell ⟨w.heap.size, 3, none⟩ (.int .i64 0)).setCell ⟨w.heap.size, 4, none⟩ (.slice none 0 0)) = w9 at *
      have k0 := block_cell HK.out 0
      have k1 := block_cell HK.out 1
      have k2 := block_cell HK.out 2
      have k3 := block_cell HK.out 3
      have k4 := block_cell HK.out 4
      simp at k0 k1 k2 k3 k4
      exact bodyPost_ret (v := .tuple #[batV ⟨[], 0, 0, 0, []⟩ (.slice none 0 0), .string (B []), .int .i64 2]) (by simp [results, Tryz.results55, go_sem, k0, k1, k2, k3, k4]; rfl) rfl ⟨_, rfl, readsE_none _, HB3.out⟩
  · have HA1 := Lib.hid (block_kept HA.out hg (by omega))
    have hb1 : Below w.heap.size w w1 := HB.out.grown hg HB.out.size (fun k hk => by cases hk; omega)
    have HB1 := Lib.hid hb1
    have hev := H.out
    rw [htb] at hev
    cases hev
    have hci : ((c : Int) == 0) = false := beq_eq_false_iff_ne.2 (by omega)
    have hcn : ¬ c = 0 := by omega
    clear hg hb1 HA HF HB HR htb H
    have a0 := block_cell HA1.out 0
    have a1 := block_cell HA1.out 1
    have a2 := block_cell HA1.out 2
    have a3 := block_cell HA1.out 3
    have a4 := block_cell HA1.out 4
    simp at a0 a1 a2 a3 a4
    have l0 := block_loose HA1.out 0
    have l1 := block_loose HA1.out 1
    have l2 := block_loose HA1.out 2
    have l3 := block_loose HA1.out 3
    have l4 := block_loose HA1.out 4
    go_wp2
    have HK : Hid ((((((w1.setCell ⟨w.heap.size, 0, none⟩ (.string ⟨#[]⟩)).setCell ⟨w.heap.size, 1, none⟩ (.int .i64 0)).setCell ⟨w.heap.size, 2, none⟩ (.int .i64 0)).setCell ⟨w.heap.size, 3, none⟩ (.int .i64 0)).setCell ⟨w.heap.size, 4, none⟩ (.slice none 0 0)).heap[w.heap.size]? = some (.cells #[.string ⟨#[]⟩, .int .i64 0, .int .i64 0, .int .i64 0, .slice none 0 0] 28 (0, 0))) := Lib.hid (set_five HA1.out)
    have HB3 : Hid (Below w.heap.size w (((((w1.setCell ⟨w.heap.size, 0, none⟩ (.string ⟨#[]⟩)).setCell ⟨w.heap.size, 1, none⟩ (.int .i64 0)).setCell ⟨w.heap.size, 2, none⟩ (.int .i64 0)).setCell ⟨w.heap.size, 3, none⟩ (.int .i64 0)).setCell ⟨w.heap.size, 4, none⟩ (.slice none 0 0))) := Lib.hid (below_five HB1.out (Nat.le_refl _) _ _ _ _ _)
    generalize (((((w1.setCell ⟨w.heap.size, 0, none⟩ (.string ⟨#[]⟩)).setCell ⟨w.heap.size, 1, none⟩ (.int .i64 0)).setCell ⟨w.heap.size, 2, none⟩ (.int .i64 0)).setCell ⟨w.heap.size, 3, none⟩ (.int .i64 0)).setCell ⟨w.heap.size, 4, none⟩ (.slice none 0 0)) = w9 at *
    have k0 := block_cell HK.out 0
    have k1 := block_cell HK.out 1
    have k2 := block_cell HK.out 2
    have k3 := block_cell HK.out 3
    have k4 := block_cell HK.out 4
    simp at k0 k1 k2 k3 k4
    exact bodyPost_ret (v := .tuple #[batV ⟨[], 0, 0, 0, []⟩ (.slice none 0 0), .string (B []), .int .i64 c]) (by simp [results, Tryz.results55, go_sem, k0, k1, k2, k3, k4]; rfl) rfl ⟨_, rfl, readsE_none _, HB3.out⟩
end Go.Proofs.YtljcgpdjhjkciaaGreat
