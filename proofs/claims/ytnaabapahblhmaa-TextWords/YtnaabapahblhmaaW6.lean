/-
  The walk of unescape of package text.
-/
import Derived.Test.YtnaabapahblhmaaW5
import Derived.Test.YtnaabapahblhmaaSpec4
namespace Go.Proofs.Ytnaabapahblhmaa
open Go.RowKit

structure UAt (s : ByteArray) (w : World) (v : Value) (wr : World) (pos : Nat) (σ : T.US) : Prop where
  own : wr.ownsRow w.heap.size 5 1 v σ.out.length (Lib.byteCells σ.out)
  it : wr.heap[w.heap.size]? = some (.stringIter s pos)
  bel : Below w.heap.size w wr
  le : pos ≤ s.size
  rel : T.URel (L s) pos σ

theorem UAt.size {s : ByteArray} {w : World} {v : Value} {wr : World} {pos : Nat} {σ : T.US} (h : UAt s w v wr pos σ) : w.heap.size < wr.heap.size := (Array.getElem?_eq_some_iff.1 h.it).1
/-- A rune by which the row grows. -/
theorem UAt.step {s : ByteArray} {w : World} {v v' : Value} {wr w1 : World} {pos n : Nat} {σ : T.US} {p : List UInt8} {o : Obj} (h : UAt s w v wr pos σ) (hp : pos < s.size) (hpc : (T.ust σ (rawAt s pos)).out = σ.out ++ p)
    (hg : ((wr.iterAt w.heap.size s (pos + widAt s pos)).alloc o).grownBy w1 v.ownBlock) (ho : w1.ownsRow w.heap.size 5 1 v' n (Lib.byteCells σ.out ++ Lib.byteCells p)) : UAt s w v' w1 (pos + widAt s pos) (T.ust σ (rawAt s pos)) := by
  have hsz := h.size
  have hit2 := Lib.iterAt_heap wr w.heap.size s pos (pos + widAt s pos) h.it
  have hbw2 := Lib.below_iterAt h.bel (k := w.heap.size) (by omega) s (pos + widAt s pos)
  have hown2 := own_iterAt h.own h.it (pos + widAt s pos)
  have hsz2 : w.heap.size ≤ (wr.iterAt w.heap.size s (pos + widAt s pos)).heap.size := by rw [Lib.iterAt_size]; omega
  have hn : n = (σ.out ++ p).length := by have := ho.1; simp [Lib.byteCells_length] at this; simp; omega
  subst hn
  rw [← Lib.byteCells_append, ← hpc] at ho
  exact ⟨ho, iter_grown hown2 hit2 hg, below_grown hbw2 hsz2 hown2 hg, (wid_at s pos hp).2, h.rel.go (ne_at s pos hp)⟩
/-- A rune by which it does not. -/
theorem UAt.still {s : ByteArray} {w : World} {v : Value} {wr : World} {pos : Nat} {σ : T.US} (h : UAt s w v wr pos σ) (hp : pos < s.size) (hpc : (T.ust σ (rawAt s pos)).out = σ.out) : UAt s w v (wr.iterAt w.heap.size s (pos + widAt s pos)) (pos + widAt s pos) (T.ust σ (rawAt s pos)) := by
  have hsz := h.size
  have hown2 := own_iterAt h.own h.it (pos + widAt s pos)
  rw [← hpc] at hown2
  exact ⟨hown2, Lib.iterAt_heap wr w.heap.size s pos (pos + widAt s pos) h.it, Lib.below_iterAt h.bel (k := w.heap.size) (by omega) s (pos + widAt s pos), (wid_at s pos hp).2, h.rel.go (ne_at s pos hp)⟩

theorem vint {k : IntKind} {a b : Int} (h : a = b) : Value.int k a = Value.int k b := by rw [h]
theorem byte_cell (n : Nat) (h : n < 256) : Lib.byteCells [UInt8.ofNat n] = [Value.int .u8 (n : Int)] := by
  simp [Lib.byteCells]; omega
theorem hexV_eq (r : Int) : hexV r = T.hexV r := rfl

set_option maxHeartbeats 4000000 in
theorem unescape_any (s : ByteArray) (w : World) (hs : s.size ≤ 1000000) :
    Calls Try.prog 30 #[.string s] w fun e w' => e = .returned (.string (B (T.unescL (L s)))) ∧ Below w.heap.size w w' := by
  obtain ⟨i0, hi, hz0, hz1, hz2⟩ := info_parts Try.info5
  go_enter Try.func30, Try.ntmps30
  go_wp2
  go_loopw [3, 4, 5, 6] (fun v e d x wr => ∃ (pos : Nat) (σ : T.US), e = .bool σ.esc ∧ d = .int .i64 σ.dg ∧ x = .int .i64 σ.vl ∧ UAt s w v wr pos σ) (fun _ _ _ _ wr => s.size - wr.iterPos w.heap.size)
  case atStart =>
    exact ⟨0, T.us0, rfl, rfl, rfl, World.ownsRow_nil _ _ _ _, iter_start w s, (Below.refl _ w).alloc (Nat.le_refl _) _, by omega, T.URel.start _⟩
  case round =>
    obtain ⟨pos, σ, rfl, rfl, rfl, hg⟩ := hrel
    have hsz := hg.size
    have hal := hg.rel.le
    have hd2 := hg.rel.d2
    have hv0 := hg.rel.v0
    have hle := hg.le
    have hit := hg.it
    have hown := hg.own
    have HV1 := Lib.hid hg.rel.v1
    have HV2 := Lib.hid hg.rel.v2
    have HG := Lib.hid hg; clear hg
    by_cases hp : pos < s.size
    · have hnx : ∀ ty, (Instr.next (.pointer (some ⟨w.heap.size, 0, none⟩)) true ty).run Try.prog wr = _ := fun ty => next_at wr w.heap.size s pos ty hit hp
      have hwd := wid_at s pos hp
      have hit2 := Lib.iterAt_heap wr w.heap.size s pos (pos + widAt s pos) hit
      have hown2 := own_iterAt hown hit (pos + widAt s pos)
      have hsz2 : w.heap.size ≤ (wr.iterAt w.heap.size s (pos + widAt s pos)).heap.size := by rw [Lib.iterAt_size]; omega
      have hrb := raw_at_bd s pos
      have hxb := T.hexV_bd (rawAt s pos)
      by_cases c0 : σ.dg = 0
      · have c0b : decide (0 < σ.dg) = false := by simp; omega
        cases ce : σ.esc
        · by_cases cr : rawAt s pos = 92
          · have crb : (rawAt s pos == 92) = true := beq_iff_eq.2 cr
            have HU := Lib.hid (T.ust_b (r := rawAt s pos) c0 ce cr)
            have R := Lib.hid (HG.out.still hp (by rw [HU.out]))
            have hit3 := R.out.it
            have HC0 := Lib.hid c0; clear cr c0
            go_wp2
            go_roundw
            case rel => exact ⟨_, _, by rw [HU.out], by rw [HU.out, HC0.out], by rw [HU.out], R.out⟩
            case measure =>
              simp only [World.iterPos, hit3, hit]
              omega
          · have crb : (rawAt s pos == 92) = false := beq_eq_false_iff_ne.2 cr
            have HU := Lib.hid (T.ust_p (r := rawAt s pos) c0 ce cr)
            clear cr
            have HC0 := Lib.hid c0; clear c0
            go_wp2_with (go_at_call 33; refine (Try.utf8_AppendRune_plain w.heap.size _ σ.out.length _ (rawAt s pos) (by omega) (by omega) _ hown2 (by omega) hsz2).mono ?_; rintro e w1 ⟨v', rfl, hown', o, hgrow⟩)
            rw [← Lib.byteCells_encodeRune] at hown'
            have R := Lib.hid (HG.out.step hp (by rw [HU.out]) hgrow hown')
            have hit3 := R.out.it
            clear hown' hgrow
            go_wp2
            go_roundw
            case rel => exact ⟨_, _, by rw [HU.out], by rw [HU.out, HC0.out], by rw [HU.out], R.out⟩
            case measure =>
              simp only [World.iterPos, hit3, hit]
              omega
        · by_cases cr : rawAt s pos = 120
          · have crb : (rawAt s pos == 120) = true := beq_iff_eq.2 cr
            have HU := Lib.hid (T.ust_x (r := rawAt s pos) c0 ce cr)
            have R := Lib.hid (HG.out.still hp (by rw [HU.out]))
            have hit3 := R.out.it
            clear cr c0
            go_wp2
            go_roundw
            case rel => exact ⟨_, _, by rw [HU.out], by rw [HU.out]; rfl, by rw [HU.out]; rfl, R.out⟩
            case measure =>
              simp only [World.iterPos, hit3, hit]
              omega
          · have crb : (rawAt s pos == 120) = false := beq_eq_false_iff_ne.2 cr
            by_cases cn : rawAt s pos = 110
            · have cnb : (rawAt s pos == 110) = true := beq_iff_eq.2 cn
              have HU := Lib.hid (T.ust_n (r := rawAt s pos) c0 ce cn)
              clear cr cn
              have HC0 := Lib.hid c0; clear c0
              go_wp2_with (at_builtin; refine wpList_append_own _ rfl _ _ 39 rfl w.heap.size 5 i0 (.int .u8 0) 1 1 Try.underlying39 hi hz0 hz1 hz2 rfl (by decide) _ _ _ rfl (hown2.alloc _) ⟨(wr.iterAt w.heap.size s (pos + widAt s pos)).heap.size, 0, none⟩ 1 1 [.int .u8 10] rfl rfl (cell_one_new _ _ _) (by intro u hu; simp at hu; subst hu; rfl) (by unfold maxLen; omega) (by omega) (by simp; omega) ?_; intro v' w1 hown' hgrow _)
              have R := Lib.hid (HG.out.step (p := [10]) hp (by rw [HU.out]) hgrow hown')
              have hit3 := R.out.it
              clear hown' hgrow
              go_wp2
              go_roundw
              case rel => exact ⟨_, _, by rw [HU.out], by rw [HU.out, HC0.out], by rw [HU.out], R.out⟩
              case measure =>
                simp only [World.iterPos, hit3, hit]
                omega
            · have cnb : (rawAt s pos == 110) = false := beq_eq_false_iff_ne.2 cn
              have HU := Lib.hid (T.ust_e (r := rawAt s pos) c0 ce cr cn)
              clear cr cn
              have HC0 := Lib.hid c0; clear c0
              go_wp2_with (go_at_call 33; refine (Try.utf8_AppendRune_plain w.heap.size _ σ.out.length _ (rawAt s pos) (by omega) (by omega) _ hown2 (by omega) hsz2).mono ?_; rintro e w1 ⟨v', rfl, hown', o, hgrow⟩)
              rw [← Lib.byteCells_encodeRune] at hown'
              have R := Lib.hid (HG.out.step hp (by rw [HU.out]) hgrow hown')
              have hit3 := R.out.it
              clear hown' hgrow
              go_wp2
              go_roundw
              case rel => exact ⟨_, _, by rw [HU.out], by rw [HU.out, HC0.out], by rw [HU.out], R.out⟩
              case measure =>
                simp only [World.iterPos, hit3, hit]
                omega
      · have c0b : decide ((0 : Int) < (σ.dg : Int)) = true := by simp; omega
        by_cases c1 : σ.dg = 1
        · have c1b : ((σ.dg : Int) - 1 == 0) = true := by simp; omega
          have hv1 := HV1.out c1
          have HU := Lib.hid (T.ust_d1 (r := rawAt s pos) c1)
          have HC1 := Lib.hid c1; clear c1 c0
          have HB := Lib.hid (byte_cell (σ.vl * 16 + (T.hexV (rawAt s pos)).toNat) (by omega))
          have HN := Lib.hid (show ((σ.vl * 16 + (T.hexV (rawAt s pos)).toNat : Nat) : Int) = (σ.vl : Int) * 16 + T.hexV (rawAt s pos) by omega)
          go_wp2_with (first
            | (go_at_call 41; refine (hexValue_any _ _).mono ?_; rintro e w' ⟨rfl, rfl⟩; rw [hexV_eq])
            | (at_builtin; refine wpList_append_own _ rfl _ _ 39 rfl w.heap.size 5 i0 (.int .u8 0) 1 1 Try.underlying39 hi hz0 hz1 hz2 rfl (by decide) _ _ _ rfl (hown2.alloc _) ⟨(wr.iterAt w.heap.size s (pos + widAt s pos)).heap.size, 0, none⟩ 1 1 [.int .u8 ((σ.vl : Int) * 16 + T.hexV (rawAt s pos))] rfl rfl (cell_one_new _ _ _) (by intro u hu; simp at hu; subst hu; rfl) (by unfold maxLen; omega) (by omega) (by simp; omega) ?_; intro v' w1 hown' hgrow _))
          rw [← HN.out, ← HB.out] at hown'
          have R := Lib.hid (HG.out.step hp (by rw [HU.out]) hgrow hown')
          have hit3 := R.out.it
          clear hown' hgrow
          go_wp2
          go_roundw
          case rel => exact ⟨_, _, by rw [HU.out], by rw [HU.out, HC1.out]; rfl, by rw [HU.out, HN.out], R.out⟩
          case measure =>
            simp only [World.iterPos, hit3, hit]
            omega
        · have c2 : σ.dg = 2 := by omega
          have c1b : ((σ.dg : Int) - 1 == 0) = false := by simp; omega
          have hv2 : σ.vl ≤ 0 := by rw [HV2.out c2]; omega
          have HU := Lib.hid (T.ust_d2 (r := rawAt s pos) c2)
          have R := Lib.hid (HG.out.still hp (by rw [HU.out]))
          have hit3 := R.out.it
          have h2 : 2 ≤ σ.dg := by omega
          have HC2 := Lib.hid c2; clear c2 c1 c0
          have HN := Lib.hid (show ((σ.vl * 16 + (T.hexV (rawAt s pos)).toNat : Nat) : Int) = (σ.vl : Int) * 16 + T.hexV (rawAt s pos) by omega)
          go_wp2_with (go_at_call 41; refine (hexValue_any _ _).mono ?_; rintro e w' ⟨rfl, rfl⟩; rw [hexV_eq])
          go_roundw
          case rel => exact ⟨_, _, by rw [HU.out], by rw [HU.out, HC2.out]; rfl, by rw [HU.out, HN.out], R.out⟩
          case measure =>
            simp only [World.iterPos, hit3, hit]
            omega
    · have hnx : ∀ ty, (Instr.next (.pointer (some ⟨w.heap.size, 0, none⟩)) true ty).run Try.prog wr = _ := fun ty => Lib.run_next_end_at wr w.heap.size s pos ty hit hp
      have HS := Lib.hid (HG.out.rel.done (by rw [L_len]; omega))
      have hcv := conv_owned hown
      go_wp2
      go_ret
      rw [HS.out]
      exact ⟨rfl, HG.out.bel⟩
end Go.Proofs.Ytnaabapahblhmaa
