/-
  Own texts, joined: SegCode5
-/
import Derived.Test.YtmfhipjceeijmaaGreatDoorBun38
import Derived.Test.YtmfhipjceeijmaaGreatDoorBun19
import Derived.Test.YtmfhipjceeijmaaGreatDoorBun28

/-
  The segment package: entries, the function that it gives out.
-/
namespace Go.Proofs.YtmfhipjceeijmaaGreatDoor.G
open Go.RowKit Go.Shelf
open D (dP)
attribute [local go_sem] Oper.semAt_some ext_Bd ext_Bl ext_Bt toList_B add_B size_B get_Bt

/-- The block that the row of a segment's entries lies in (b: the segment's block). -/
def Held (b : Nat) (W : World) (k : Nat) : Prop := ∃ off n c, W.cell? ⟨b, 1, none⟩ = some (.slice (some ⟨k, off, none⟩) n c)
/-- What a round keeps. -/
structure Kept (b lim : Nat) (A C : World) : Prop where
  size : A.heap.size ≤ C.heap.size
  same : ∀ k cs t fr, A.heap[k]? = some (.cells cs t fr) → k ≠ b → ¬ Held b A k → C.heap[k]? = A.heap[k]?
  low : ∀ k, Held b C k → lim ≤ k ∧ k < C.heap.size
theorem cells_of {w : World} {p : Addr} {u : Value} (h : w.cell? p = some u) : ∃ cs t fr, w.heap[p.block]? = some (.cells cs t fr) := by
  unfold World.cell? at h
  split at h
  · rename_i c t fr hc
    exact ⟨c, t, fr, hc⟩
  · cases h
theorem Kept.cell {b lim : Nat} {A C : World} (h : Kept b lim A C) {p : Addr} {u : Value} (hc : A.cell? p = some u) (hb : p.block ≠ b) (hh : ¬ Held b A p.block) : C.cell? p = some u := by
  obtain ⟨cs, t, fr, ho⟩ := cells_of hc
  exact cell_same hc (h.same _ _ _ _ ho hb hh)
/-- What the function that entries gives out reads. -/
structure FixAt (b lim g1 g2 : Nat) (first : Int) (v : Value) (body : List Tx) (W : World) : Prop where
  fits : lim ≤ W.heap.size
  blt : b < lim
  low : ∀ k, Held b W k → lim ≤ k ∧ k < W.heap.size
  one : W.cell? ⟨g1, 0, none⟩ = some (.int .i64 first) ∧ g1 < lim ∧ g1 ≠ b
  two : W.cell? ⟨g2, 0, none⟩ = some v ∧ g2 < lim ∧ g2 ≠ b
  row : ∃ a cap, v = .slice a body.length cap ∧ ∀ i (h : i < body.length), ∃ bb off, a = some ⟨bb, off, none⟩ ∧ bb < lim ∧ bb ≠ b ∧ W.cell? ⟨bb, off + i, none⟩ = some (.string (B body[i]))
section
variable {b lim g1 g2 : Nat} {first : Int} {v : Value} {body : List Tx} {A C : World}
theorem FixAt.keep (h : FixAt b lim g1 g2 first v body A) (hs : A.heap.size ≤ C.heap.size) (hl : ∀ k, Held b C k → lim ≤ k ∧ k < C.heap.size) (hk : ∀ (p : Addr) (u : Value), A.cell? p = some u → p.block < lim → p.block ≠ b → C.cell? p = some u) : FixAt b lim g1 g2 first v body C := by
  refine ⟨Nat.le_trans h.fits hs, h.blt, hl, ⟨hk _ _ h.one.1 h.one.2.1 h.one.2.2, h.one.2⟩, ⟨hk _ _ h.two.1 h.two.2.1 h.two.2.2, h.two.2⟩, ?_⟩
  obtain ⟨a, cap, e, hx⟩ := h.row
  refine ⟨a, cap, e, fun i hi => ?_⟩
  obtain ⟨bb, off, e2, h1, h2, h3⟩ := hx i hi
  exact ⟨bb, off, e2, h1, h2, hk _ _ h3 h1 h2⟩
theorem FixAt.kept (h : FixAt b lim g1 g2 first v body A) (hk : Kept b lim A C) : FixAt b lim g1 g2 first v body C :=
  h.keep hk.size hk.low fun p u hc hl hb => hk.cell hc hb fun hh => by have := (h.low _ hh).1; omega
theorem held_below (hs : b < A.heap.size) (hb : Below A.heap.size A C) {k : Nat} (hh : Held b C k) : Held b A k := by
  obtain ⟨off, n, c, e⟩ := hh
  exact ⟨off, n, c, by rw [← hb.cell (show (⟨b, 1, none⟩ : Addr).block < A.heap.size from hs)]; exact e⟩
theorem FixAt.below (h : FixAt b lim g1 g2 first v body A) (hb : Below A.heap.size A C) : FixAt b lim g1 g2 first v body C :=
  h.keep hb.size (fun k hh => by
    have h1 := h.low k (held_below (Nat.lt_of_lt_of_le h.blt h.fits) hb hh)
    have := hb.size
    omega) fun p u hc _ _ => below_keeps hb p u hc
end
theorem goOn_at {body : List Tx} {k : Nat} (hlt : k < body.length) (p c : Int) : goOn (body.drop k) p c = (match entOf body[k] with
    | some e => if e.pos = p + 1 ∧ c ≤ e.epoch then e :: goOn (body.drop (k + 1)) e.pos e.epoch else []
    | none => []) := by
  rw [List.drop_eq_getElem_cons hlt]
  rfl
theorem follows_one {e : R.En} {p c : Int} (hr : R.right e = true) : R.follows [e] p c = decide (e.pos = p + 1 ∧ c ≤ e.epoch) := by
  by_cases h : e.pos = p + 1 ∧ c ≤ e.epoch
  · rw [decide_eq_true h]
    exact R.follows_cons.2 ⟨hr, h.1, h.2, rfl⟩
  · rw [decide_eq_false h]
    cases hf : R.follows [e] p c
    · rfl
    · obtain ⟨_, h1, h2, _⟩ := R.follows_cons.1 hf
      exact absurd ⟨h1, h2⟩ h
/-- One entry in a row of its own. -/
theorem reads_one {w : World} {g : Nat} {e : R.En} {u : Value} (h : w.heap[g]? = some (.cells #[.int .i64 e.pos, .int .i64 e.epoch, .string (B e.b.stream), .int .i64 e.b.expect, .int .i64 e.b.session, .int .i64 e.b.seq, u] 53 (0, 0))) (hre : ReadsE w u e.b.events) (hp : i64B e.pos) : ReadsR w (.slice (some ⟨g, 0, none⟩) 1 1) [(e, u)] := by
  refine ⟨_, 1, rfl, Nat.le_refl _, fun h => (by cases h), fun i hi => ?_⟩
  obtain rfl : i = 0 := by simpa using hi
  refine ⟨hre, hp, g, 0, rfl, ?_⟩
  have k0 := block_cell h 0
  have k1 := block_cell h 1
  have k2 := block_cell h 2
  have k3 := block_cell h 3
  have k4 := block_cell h 4
  have k5 := block_cell h 5
  have k6 := block_cell h 6
  simp only [List.getElem?_toArray, List.getElem?_cons_zero, List.getElem?_cons_succ] at k0 k1 k2 k3 k4 k5 k6
  exact ⟨k0, k1, k2, k3, k4, k5, k6⟩

set_option maxHeartbeats 4000000 in
set_option maxRecDepth 100000 in
theorem entries1_in (n : Nat) (b lim g1 g2 first : Nat) (v : Value) (body : List Tx) (w : World) (hf : 1 ≤ first ∧ first ≤ far) (hbl : ∀ q ∈ body, q.length ≤ 100000) (hbn : body.length ≤ 100000000) (hfix : FixAt b lim g1 g2 (first : Int) v body w) :
    Yields Fence.wide n Tryz.prog 74 #[.pointer (some ⟨g1, 0, none⟩), .pointer (some ⟨g2, 0, none⟩)] (fun x : EV => #[enV x.1 x.2])
      (fun x W => i64B x.1.pos ∧ R.right x.1 = true ∧ W.ownsRow lim 92 2 x.2 x.1.b.events.length (evCells x.1.b.events)) (Kept b lim) (fun xs => ensOf xs = goOn body ((first : Int) - 1) 0) body.length w := by
  intro l J W hW hJ hY h0
  have HFX := Lib.hid (hfix.below hW)
  have HBL := Lib.hid hbl
  obtain ⟨hf1, hf2⟩ := hf
  have hf3 : (first : Int) ≤ 274877906944 := by unfold far at hf2; omega
  clear hfix hbl hf2
  refine callsIn_of_wp Tryz.func74 rfl trivial ?_ rfl
  simp only [Tryz.ntmps74, List.size_toArray, List.length_cons, List.length_nil, Nat.reduceAdd, Nat.reduceSub, Array.replicate_succ, Array.replicate_zero, List.push_toArray, List.append_toArray, List.nil_append, List.cons_append]
  have c1 := HFX.out.one.1
  have c2 := HFX.out.two.1
  obtain ⟨a, cap, rfl, HROW⟩ : ∃ a cap, v = .slice a body.length cap ∧ Hid True := by
    obtain ⟨a, cap, e, _⟩ := HFX.out.row
    exact ⟨a, cap, e, Lib.hid trivial⟩
  gi_wp2
  gi_loopw [14, 4, 5] (fun i p q wr => ∃ (k : Nat) (pre : List EV) (pp ee : Int), i = .int .i64 k ∧ p = .int .i64 pp ∧ q = .int .i64 ee ∧ k ≤ body.length ∧ Hid (pre.length = k) ∧ Hid (goOn body ((first : Int) - 1) 0 = ensOf pre ++ goOn (body.drop k) pp ee) ∧ Hid (FixAt b lim g1 g2 (first : Int) (.slice a body.length cap) body wr) ∧ Hid (i64B pp) ∧ Hid (J pre wr)) (fun i _ _ _ => body.length - (intOf i).toNat)
  case atStart =>
    exact ⟨0, [], (first : Int) - 1, 0, rfl, rfl, rfl, Nat.zero_le _, Lib.hid rfl, Lib.hid (by rfl), HFX, Lib.hid (by unfold i64B; omega), Lib.hid h0⟩
  case round =>
    obtain ⟨k, pre, pp, ee, rfl, rfl, rfl, hk, HLEN, HGO, HF, HPP, HJP⟩ := hrel
    by_cases hlt : k < body.length
    · have hi1 : (k : Int) < (body.length : Int) := by omega
      have hq0 := HBL.out body[k] (List.getElem_mem hlt)
      have HG := Lib.hid (goOn_at hlt pp ee)
      have hcell : ∃ bb off, a = some ⟨bb, off, none⟩ ∧ wr.cell? ⟨bb, off + k, none⟩ = some (.string (B body[k])) := by
        obtain ⟨a2, cap2, e, hx⟩ := HF.out.row
        cases e
        obtain ⟨bb, off, e2, _, _, h3⟩ := hx k hlt
        exact ⟨bb, off, e2, h3⟩
      obtain ⟨bb, off, rfl, hcell⟩ := hcell
      have HPRE := Lib.hid (show pre.length < body.length by have := HLEN.out; omega)
      generalize body[k] = q at *
      gi_wp2_with fail
      refine ⟨trivial, fun h => (by cases h), ?_⟩
      refine (callsIn_wide.2 (entryOf_l q wr hq0)).mono ?_
      rintro x w1 ⟨e, u, bo, rfl, hcase, how, hb1⟩
      have HOW := Lib.hid how
      have HB1 := Lib.hid hb1
      have HCASE := Lib.hid hcase
      have hre := readsE_own how
      obtain ⟨pos, ep, ⟨st, ex, se, sq, evs⟩⟩ := e
      dsimp only at hre HOW HCASE ⊢
      obtain ⟨ua, uc, rfl, _⟩ := hre
      clear how hb1 hcase hcell
      have HAL := Lib.hid (show Below w1.heap.size w1 (w1.alloc (.cells #[.int .i64 pos, .int .i64 ep, .string (B st), .int .i64 ex, .int .i64 se, .int .i64 sq, .slice ua evs.length uc] 53)) from (Below.refl _ w1).alloc (Nat.le_refl _) _)
      cases bo with
      | false =>
        have hen : entOf q = none := by
          rcases HCASE.out with h | h
          · cases h.1
          · exact h.2
        have HD := Lib.hid (show ensOf pre = goOn body ((first : Int) - 1) 0 by
          rw [HGO.out, HG.out, hen]; simp)
        clear HG HCASE hen
        gi_wp2
        refine ⟨trivial, ?_⟩
        gi_wp2
        refine ⟨fun _ h => (by cases h), ?_⟩
        gi_wp2
        refine bodyPost_ret (results_none rfl _ _ _) rfl ?_
        exact ⟨⟨_, rfl⟩, pre, HD.out, hJ _ _ _ HJP.out (HB1.out.trans (HAL.out.mono HB1.out.size))⟩
      | true =>
        have hen : entOf q = some ⟨pos, ep, ⟨st, ex, se, sq, evs⟩⟩ := by
          rcases HCASE.out with h | h
          · exact h.2
          · cases h.1
        have hrt := (entOf_inv hen).2
        have HRT := Lib.hid hrt
        have HFO := Lib.hid (follows_one (p := pp) (c := ee) hrt)
        have HSM := Lib.hid (en_right_small hrt)
        have hposB : i64B pos := by
          obtain ⟨q1, q2, _⟩ := R.right_iff.1 hrt
          have hlg : R.large = 274877906944 := rfl
          dsimp only at q1 q2
          unfold i64B
          omega
        have HPB := Lib.hid hposB
        rw [hen] at HG
        dsimp only at HG
        clear HCASE hen hrt hposB
        by_cases hgo : pos = pp + 1 ∧ ee ≤ ep
        · have HFF := Lib.hid (show R.follows (ensOf [((⟨pos, ep, ⟨st, ex, se, sq, evs⟩⟩ : R.En), Value.slice ua evs.length uc)]) pp ee = true by
            show R.follows [(⟨pos, ep, ⟨st, ex, se, sq, evs⟩⟩ : R.En)] pp ee = true
            rw [HFO.out]
            exact decide_eq_true hgo)
          have HGN := Lib.hid (show goOn body ((first : Int) - 1) 0 = ensOf (pre ++ [((⟨pos, ep, ⟨st, ex, se, sq, evs⟩⟩ : R.En), Value.slice ua evs.length uc)]) ++ goOn (body.drop (k + 1)) pos ep by
            rw [HGO.out, HG.out, if_pos hgo]; simp [ensOf])
          clear HG hgo HFO
          gi_wp2_with fail
          refine ⟨trivial, fun h => (by cases h), ?_⟩
          refine (callsIn_wide.2 (Follows_at [((⟨pos, ep, ⟨st, ex, se, sq, evs⟩⟩ : R.En), Value.slice ua evs.length uc)] _ pp ee true _ ?hv (by simp) (by intro x hx; rw [List.mem_singleton] at hx; subst hx; exact HSM.out) HPP.out HFF)).mono ?_
          case hv =>
            refine reads_one ?_ ?_ HPB.out
            · have := heap_alloc_new (w1.alloc (.cells #[.int .i64 pos, .int .i64 ep, .string (B st), .int .i64 ex, .int .i64 se, .int .i64 sq, .slice ua evs.length uc] 53)) (.cells #[.int .i64 pos, .int .i64 ep, .string (B st), .int .i64 ex, .int .i64 se, .int .i64 sq, .slice ua evs.length uc] 53)
              rwa [World.size_alloc] at this
            · exact readsE_below (readsE_below (readsE_own HOW.out) HAL.out) ((Below.refl _ _).alloc (Nat.le_refl _) _)
          rintro x w2 ⟨rfl, hb2⟩
          have hb12 : Below wr.heap.size wr w2 := (HB1.out.trans (HAL.out.mono HB1.out.size)).trans (((Below.refl (w1.alloc (.cells #[.int .i64 pos, .int .i64 ep, .string (B st), .int .i64 ex, .int .i64 se, .int .i64 sq, .slice ua evs.length uc] 53)).heap.size _).alloc (Nat.le_refl _) (.cells #[.int .i64 pos, .int .i64 ep, .string (B st), .int .i64 ex, .int .i64 se, .int .i64 sq, .slice ua evs.length uc] 53)).mono (by have := HB1.out.size; simp; omega) |>.trans (hb2.mono (by have := HB1.out.size; simp; omega)))
          have hx0 : (w1.alloc (.cells #[.int .i64 pos, .int .i64 ep, .string (B st), .int .i64 ex, .int .i64 se, .int .i64 sq, .slice ua evs.length uc] 53)).heap[w1.heap.size]? = some (.cells #[.int .i64 pos, .int .i64 ep, .string (B st), .int .i64 ex, .int .i64 se, .int .i64 sq, .slice ua evs.length uc] 53 (0, 0)) := heap_alloc_new w1 _
          have hb2' : Below (w1.alloc (.cells #[.int .i64 pos, .int .i64 ep, .string (B st), .int .i64 ex, .int .i64 se, .int .i64 sq, .slice ua evs.length uc] 53)).heap.size (w1.alloc (.cells #[.int .i64 pos, .int .i64 ep, .string (B st), .int .i64 ex, .int .i64 se, .int .i64 sq, .slice ua evs.length uc] 53)) w2 := ((Below.refl (w1.alloc (.cells #[.int .i64 pos, .int .i64 ep, .string (B st), .int .i64 ex, .int .i64 se, .int .i64 sq, .slice ua evs.length uc] 53)).heap.size _).alloc (Nat.le_refl _) (.cells #[.int .i64 pos, .int .i64 ep, .string (B st), .int .i64 ex, .int .i64 se, .int .i64 sq, .slice ua evs.length uc] 53)).trans (hb2.mono (by simp))
          have hx2 := block_below hx0 hb2'
          have HX2 := Lib.hid hx2
          have HHELD := Lib.hid (show ¬ Held b w2 w1.heap.size from fun hh => by
            have h1 := HF.out.low _ (held_below (Nat.lt_of_lt_of_le HF.out.blt HF.out.fits) hb12 hh)
            have := HB1.out.size
            omega)
          have HNB := Lib.hid (show w1.heap.size ≠ b by
            have h1 := HF.out.blt
            have h2 := HF.out.fits
            have := HB1.out.size
            omega)
          obtain ⟨fn, tmps, assign, body', hy, hR⟩ := hY pre ((⟨pos, ep, ⟨st, ex, se, sq, evs⟩⟩ : R.En), Value.slice ua evs.length uc) w2 (hJ _ _ _ HJP.out hb12) ⟨HPB.out, HRT.out, own_base5 (own_below5 (own_below5 HOW.out HAL.out) (by exact hb2')) (by have h2 := HF.out.fits; omega)⟩ HPRE.out
          dsimp only at hy
          have n0 := block_cell hx2 0
          have n1 := block_cell hx2 1
          have n2 := block_cell hx2 2
          have n3 := block_cell hx2 3
          have n4 := block_cell hx2 4
          have n5 := block_cell hx2 5
          have n6 := block_cell hx2 6
          simp only [List.getElem?_toArray, List.getElem?_cons_zero, List.getElem?_cons_succ] at n0 n1 n2 n3 n4 n5 n6
          clear hx0 hx2
          gi_wp2
          refine ⟨fun h => (by cases h), ?_⟩
          refine hR.mono ?_
          rintro e3 W3 ⟨rfl, hJ3, hk3⟩
          have HJ3 := Lib.hid hJ3
          have hx3 := (hk3.same _ _ _ _ HX2.out HNB.out HHELD.out).trans HX2.out
          have m0 := block_cell hx3 0
          have m1 := block_cell hx3 1
          simp only [List.getElem?_toArray, List.getElem?_cons_zero, List.getElem?_cons_succ] at m0 m1
          have HF3 := Lib.hid ((HF.out.below hb12).kept hk3)
          clear hk3 hJ3 hx3 n0 n1 n2 n3 n4 n5 n6 hy
          gi_wp2
          gi_region
          gi_wp2
          go_roundw
          case rel => exact ⟨k + 1, _, pos, ep, by go_num, rfl, rfl, by omega, Lib.hid (by rw [List.length_append, HLEN.out]; rfl), HGN, Lib.hid (HF3.out.below ⟨rfl, rfl, rfl, Nat.le_refl _, fun _ _ => rfl⟩), HPB, Lib.hid (hJ _ _ _ HJ3.out ⟨rfl, rfl, rfl, Nat.le_refl _, fun _ _ => rfl⟩)⟩
          case measure => simp [intOf]; omega
        · have HFF := Lib.hid (show R.follows (ensOf [((⟨pos, ep, ⟨st, ex, se, sq, evs⟩⟩ : R.En), Value.slice ua evs.length uc)]) pp ee = false by
            show R.follows [(⟨pos, ep, ⟨st, ex, se, sq, evs⟩⟩ : R.En)] pp ee = false
            rw [HFO.out]
            exact decide_eq_false hgo)
          have HD := Lib.hid (show ensOf pre = goOn body ((first : Int) - 1) 0 by
            rw [HGO.out, HG.out, if_neg hgo]; simp)
          clear HG hgo HFO
          gi_wp2_with fail
          refine ⟨trivial, fun h => (by cases h), ?_⟩
          refine (callsIn_wide.2 (Follows_at [((⟨pos, ep, ⟨st, ex, se, sq, evs⟩⟩ : R.En), Value.slice ua evs.length uc)] _ pp ee false _ ?hv (by simp) (by intro x hx; rw [List.mem_singleton] at hx; subst hx; exact HSM.out) HPP.out HFF)).mono ?_
          case hv =>
            refine reads_one ?_ ?_ HPB.out
            · have := heap_alloc_new (w1.alloc (.cells #[.int .i64 pos, .int .i64 ep, .string (B st), .int .i64 ex, .int .i64 se, .int .i64 sq, .slice ua evs.length uc] 53)) (.cells #[.int .i64 pos, .int .i64 ep, .string (B st), .int .i64 ex, .int .i64 se, .int .i64 sq, .slice ua evs.length uc] 53)
              rwa [World.size_alloc] at this
            · exact readsE_below (readsE_below (readsE_own HOW.out) HAL.out) ((Below.refl _ _).alloc (Nat.le_refl _) _)
          rintro x w2 ⟨rfl, hb2⟩
          have hb12 : Below wr.heap.size wr w2 := (HB1.out.trans (HAL.out.mono HB1.out.size)).trans (((Below.refl (w1.alloc (.cells #[.int .i64 pos, .int .i64 ep, .string (B st), .int .i64 ex, .int .i64 se, .int .i64 sq, .slice ua evs.length uc] 53)).heap.size _).alloc (Nat.le_refl _) (.cells #[.int .i64 pos, .int .i64 ep, .string (B st), .int .i64 ex, .int .i64 se, .int .i64 sq, .slice ua evs.length uc] 53)).mono (by have := HB1.out.size; simp; omega) |>.trans (hb2.mono (by have := HB1.out.size; simp; omega)))
          gi_wp2
          refine ⟨fun _ h => (by cases h), ?_⟩
          gi_wp2
          refine bodyPost_ret (results_none rfl _ _ _) rfl ?_
          exact ⟨⟨_, rfl⟩, pre, HD.out, hJ _ _ _ HJP.out hb12⟩
    · have hi1 : ¬ (k : Int) < (body.length : Int) := by omega
      have HD := Lib.hid (show ensOf pre = goOn body ((first : Int) - 1) 0 by rw [HGO.out, List.drop_of_length_le (by omega)]; simp [goOn])
      gi_wp2
      refine bodyPost_end (results_none rfl _ _ _) rfl ?_
      exact ⟨⟨_, rfl⟩, pre, HD.out, HJP.out⟩
end Go.Proofs.YtmfhipjceeijmaaGreatDoor.G
