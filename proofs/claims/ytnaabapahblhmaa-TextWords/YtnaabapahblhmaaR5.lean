/-
  Walks of the document's answer to layer 1 (package bucketlineref1): inner.
-/
import Derived.Test.YtnaabapahblhmaaR4
namespace Go.Proofs.Ytnaabapahblhmaa
open Go.RowKit
attribute [local go_sem] ext_Bd ext_Bl ext_Bt toList_B add_B size_B get_Bt

def innerF : Nat → List UInt8 → Option (List UInt8)
  | 0, _ => some []
  | f + 1, l =>
    if l = [] then some []
    else if l.getD 0 0 ≠ 92 then (innerF f (l.drop 1)).map (l.getD 0 0 :: ·)
    else if l.length < 2 then none
    else if l.getD 1 0 = 34 ∨ l.getD 1 0 = 92 then (innerF f (l.drop 2)).map (l.getD 1 0 :: ·)
    else if l.getD 1 0 = 110 then (innerF f (l.drop 2)).map (10 :: ·)
    else if l.getD 1 0 = 120 then
      if l.length < 4 then none
      else if valV (l.getD 2 0) < 0 ∨ valV (l.getD 3 0) < 0 then none
      else (innerF f (l.drop 4)).map (UInt8.ofNat (16 * valV (l.getD 2 0) + valV (l.getD 3 0)).toNat :: ·)
    else none
def innerL (l : List UInt8) : Option (List UInt8) := innerF l.length l

theorem innerF_nil (f : Nat) : innerF f [] = some [] := by cases f <;> simp [innerF]
theorem innerF_eq : ∀ (f g : Nat) (l : List UInt8), l.length ≤ f → l.length ≤ g → innerF f l = innerF g l
  | 0, g, l, a, _ => by
    have : l = [] := List.length_eq_zero_iff.1 (by omega)
    subst this; rw [innerF_nil, innerF_nil]
  | f + 1, 0, l, _, b => by
    have : l = [] := List.length_eq_zero_iff.1 (by omega)
    subst this; rw [innerF_nil, innerF_nil]
  | f + 1, g + 1, l, a, b => by
    by_cases hn : l = []
    · subst hn; rw [innerF_nil, innerF_nil]
    · have := T.len_pos hn
      have h1 := innerF_eq f g (l.drop 1) (by simp; omega) (by simp; omega)
      have h2 := innerF_eq f g (l.drop 2) (by simp; omega) (by simp; omega)
      have h4 := innerF_eq f g (l.drop 4) (by simp; omega) (by simp; omega)
      simp only [innerF, h1, h2, h4]
theorem innerL_step {l : List UInt8} (hn : l ≠ []) : innerL l =
    if l.getD 0 0 ≠ 92 then (innerL (l.drop 1)).map (l.getD 0 0 :: ·)
    else if l.length < 2 then none
    else if l.getD 1 0 = 34 ∨ l.getD 1 0 = 92 then (innerL (l.drop 2)).map (l.getD 1 0 :: ·)
    else if l.getD 1 0 = 110 then (innerL (l.drop 2)).map (10 :: ·)
    else if l.getD 1 0 = 120 then
      if l.length < 4 then none
      else if valV (l.getD 2 0) < 0 ∨ valV (l.getD 3 0) < 0 then none
      else (innerL (l.drop 4)).map (UInt8.ofNat (16 * valV (l.getD 2 0) + valV (l.getD 3 0)).toNat :: ·)
    else none := by
  have := T.len_pos hn
  obtain ⟨k, hk⟩ : ∃ k, l.length = k + 1 := ⟨l.length - 1, by omega⟩
  have h1 : innerL (l.drop 1) = innerF k (l.drop 1) := innerF_eq _ _ _ (Nat.le_refl _) (by simp; omega)
  have h2 : innerL (l.drop 2) = innerF k (l.drop 2) := innerF_eq _ _ _ (Nat.le_refl _) (by simp; omega)
  have h4 : innerL (l.drop 4) = innerF k (l.drop 4) := innerF_eq _ _ _ (Nat.le_refl _) (by simp; omega)
  rw [h1, h2, h4]
  unfold innerL
  rw [hk, innerF, if_neg hn, hk]

def innRes (o : Option (List UInt8)) : Value :=
  match o with
  | none => .tuple #[.string (B []), .bool false]
  | some t => .tuple #[.string (B t), .bool true]

structure InRel (m : List UInt8) (pos : Nat) (acc : List UInt8) : Prop where
  cut : innerL m = (innerL (m.drop pos)).map (acc ++ ·)
  le : acc.length ≤ pos
theorem InRel.start (m : List UInt8) : InRel m 0 [] := ⟨by cases h : innerL m <;> simp [h], by simp⟩
theorem InRel.go {m : List UInt8} {pos k : Nat} {acc : List UInt8} {c : UInt8} (h : InRel m pos acc) (hk : 1 ≤ k) (e : innerL (m.drop pos) = (innerL ((m.drop pos).drop k)).map (c :: ·)) : InRel m (pos + k) (acc ++ [c]) := by
  refine ⟨?_, by have := h.le; simp; omega⟩
  rw [h.cut, e, Option.map_map, List.drop_drop]
  congr 1; funext x; simp
theorem InRel.bad {m : List UInt8} {pos : Nat} {acc : List UInt8} (h : InRel m pos acc) (e : innerL (m.drop pos) = none) : innRes (innerL m) = .tuple #[.string (B []), .bool false] := by
  rw [h.cut, e]; rfl
theorem InRel.done {m : List UInt8} {pos : Nat} {acc : List UInt8} (h : InRel m pos acc) (hl : m.length ≤ pos) : innRes (innerL m) = .tuple #[.string (B acc), .bool true] := by
  rw [h.cut, List.drop_of_length_le hl]; simp [innerL, innerF, innRes]

theorem getD_drop (m : List UInt8) (pos k : Nat) : (m.drop pos).getD k 0 = m.getD (pos + k) 0 := by simp [List.getD_eq_getElem?_getD]
theorem bt_get (m : List UInt8) (k : Nat) : T.bt m k = (m.getD k 0).toNat := rfl
theorem get_eq {m : List UInt8} {k n : Nat} (h : T.bt m k = n) (hn : n < 256) : m.getD k 0 = UInt8.ofNat n := (T.u8_eq hn).2 h
theorem get_ne {m : List UInt8} {k n : Nat} (h : T.bt m k ≠ n) (hn : n < 256) : m.getD k 0 ≠ UInt8.ofNat n := fun e => h ((T.u8_eq hn).1 e)

section
variable {m : List UInt8} {pos : Nat}
theorem in_step (hp : pos < m.length) : innerL (m.drop pos) =
    if m.getD pos 0 ≠ 92 then (innerL ((m.drop pos).drop 1)).map (m.getD pos 0 :: ·)
    else if m.length - pos < 2 then none
    else if m.getD (pos + 1) 0 = 34 ∨ m.getD (pos + 1) 0 = 92 then (innerL ((m.drop pos).drop 2)).map (m.getD (pos + 1) 0 :: ·)
    else if m.getD (pos + 1) 0 = 110 then (innerL ((m.drop pos).drop 2)).map (10 :: ·)
    else if m.getD (pos + 1) 0 = 120 then
      if m.length - pos < 4 then none
      else if valV (m.getD (pos + 2) 0) < 0 ∨ valV (m.getD (pos + 3) 0) < 0 then none
      else (innerL ((m.drop pos).drop 4)).map (UInt8.ofNat (16 * valV (m.getD (pos + 2) 0) + valV (m.getD (pos + 3) 0)).toNat :: ·)
    else none := by
  have := innerL_step (T.drop_ne hp)
  simpa only [getD_drop, Nat.add_zero, List.length_drop] using this
theorem in_plain (hp : pos < m.length) (h : T.bt m pos ≠ 92) : innerL (m.drop pos) = (innerL ((m.drop pos).drop 1)).map (m.getD pos 0 :: ·) := by
  have h1 : m.getD pos 0 ≠ 92 := get_ne h (by decide)
  rw [in_step hp, if_pos h1]
theorem in_short (hp : pos < m.length) (h : T.bt m pos = 92) (hl : m.length < pos + 2) : innerL (m.drop pos) = none := by
  have h1 : m.getD pos 0 = 92 := get_eq h (by decide)
  rw [in_step hp, if_neg (fun e => e h1), if_pos (by omega)]
theorem in_q (hp : pos < m.length) (h : T.bt m pos = 92) (hl : ¬ m.length < pos + 2) (hq : T.bt m (pos + 1) = 34 ∨ T.bt m (pos + 1) = 92) : innerL (m.drop pos) = (innerL ((m.drop pos).drop 2)).map (m.getD (pos + 1) 0 :: ·) := by
  have h1 : m.getD pos 0 = 92 := get_eq h (by decide)
  have h2 : m.getD (pos + 1) 0 = 34 ∨ m.getD (pos + 1) 0 = 92 := by
    rcases hq with hq | hq
    · exact .inl (get_eq hq (by decide))
    · exact .inr (get_eq hq (by decide))
  rw [in_step hp, if_neg (fun e => e h1), if_neg (by omega), if_pos h2]
theorem in_rest (hp : pos < m.length) (h : T.bt m pos = 92) (hl : ¬ m.length < pos + 2) (h34 : T.bt m (pos + 1) ≠ 34) (h92 : T.bt m (pos + 1) ≠ 92) : innerL (m.drop pos) =
    if m.getD (pos + 1) 0 = 110 then (innerL ((m.drop pos).drop 2)).map (10 :: ·)
    else if m.getD (pos + 1) 0 = 120 then
      if m.length - pos < 4 then none
      else if valV (m.getD (pos + 2) 0) < 0 ∨ valV (m.getD (pos + 3) 0) < 0 then none
      else (innerL ((m.drop pos).drop 4)).map (UInt8.ofNat (16 * valV (m.getD (pos + 2) 0) + valV (m.getD (pos + 3) 0)).toNat :: ·)
    else none := by
  have h1 : m.getD pos 0 = 92 := get_eq h (by decide)
  have h2 : ¬ (m.getD (pos + 1) 0 = 34 ∨ m.getD (pos + 1) 0 = 92) := by
    rintro (e | e)
    · exact get_ne h34 (by decide) e
    · exact get_ne h92 (by decide) e
  rw [in_step hp, if_neg (fun e => e h1), if_neg (by omega), if_neg h2]
theorem in_n (hp : pos < m.length) (h : T.bt m pos = 92) (hl : ¬ m.length < pos + 2) (hn : T.bt m (pos + 1) = 110) : innerL (m.drop pos) = (innerL ((m.drop pos).drop 2)).map (10 :: ·) := by
  have h2 : m.getD (pos + 1) 0 = 110 := get_eq hn (by decide)
  rw [in_rest hp h hl (by omega) (by omega), if_pos h2]
theorem in_other (hp : pos < m.length) (h : T.bt m pos = 92) (hl : ¬ m.length < pos + 2) (h34 : T.bt m (pos + 1) ≠ 34) (h92 : T.bt m (pos + 1) ≠ 92) (h110 : T.bt m (pos + 1) ≠ 110) (h120 : T.bt m (pos + 1) ≠ 120) : innerL (m.drop pos) = none := by
  have h2 : ¬ m.getD (pos + 1) 0 = 110 := get_ne h110 (by decide)
  have h3 : ¬ m.getD (pos + 1) 0 = 120 := get_ne h120 (by decide)
  rw [in_rest hp h hl h34 h92, if_neg h2, if_neg h3]
theorem in_x (hp : pos < m.length) (h : T.bt m pos = 92) (hl : ¬ m.length < pos + 2) (hx : T.bt m (pos + 1) = 120) : innerL (m.drop pos) =
    if m.length - pos < 4 then none
    else if valV (m.getD (pos + 2) 0) < 0 ∨ valV (m.getD (pos + 3) 0) < 0 then none
    else (innerL ((m.drop pos).drop 4)).map (UInt8.ofNat (16 * valV (m.getD (pos + 2) 0) + valV (m.getD (pos + 3) 0)).toNat :: ·) := by
  have h110 : T.bt m (pos + 1) ≠ 110 := by omega
  have h2 : ¬ m.getD (pos + 1) 0 = 110 := get_ne h110 (by decide)
  have h3 : m.getD (pos + 1) 0 = 120 := get_eq hx (by decide)
  rw [in_rest hp h hl (by omega) (by omega), if_neg h2, if_pos h3]
theorem in_xshort (hp : pos < m.length) (h : T.bt m pos = 92) (hl : ¬ m.length < pos + 2) (hx : T.bt m (pos + 1) = 120) (h4 : m.length < pos + 4) : innerL (m.drop pos) = none := by
  rw [in_x hp h hl hx, if_pos (by omega)]
theorem in_xbad (hp : pos < m.length) (h : T.bt m pos = 92) (hl : ¬ m.length < pos + 2) (hx : T.bt m (pos + 1) = 120) (h4 : ¬ m.length < pos + 4) (hv : valV (m.getD (pos + 2) 0) < 0 ∨ valV (m.getD (pos + 3) 0) < 0) : innerL (m.drop pos) = none := by
  rw [in_x hp h hl hx, if_neg (by omega), if_pos hv]
theorem in_xok (hp : pos < m.length) (h : T.bt m pos = 92) (hl : ¬ m.length < pos + 2) (hx : T.bt m (pos + 1) = 120) (h4 : ¬ m.length < pos + 4) (hv : ¬ (valV (m.getD (pos + 2) 0) < 0 ∨ valV (m.getD (pos + 3) 0) < 0)) :
    innerL (m.drop pos) = (innerL ((m.drop pos).drop 4)).map (UInt8.ofNat (16 * valV (m.getD (pos + 2) 0) + valV (m.getD (pos + 3) 0)).toNat :: ·) := by
  rw [in_x hp h hl hx, if_neg (by omega), if_neg hv]
end

structure InAt (m : List UInt8) (w : World) (v : Value) (wr : World) (pos : Nat) (acc : List UInt8) : Prop where
  own : wr.ownsRow w.heap.size 5 1 v acc.length (Lib.byteCells acc)
  bel : Below w.heap.size w wr
  le : pos ≤ m.length
  rel : InRel m pos acc
theorem InAt.step {m : List UInt8} {w : World} {v v' : Value} {wr w1 : World} {pos k n : Nat} {acc : List UInt8} {c : UInt8} {o : Obj} (h : InAt m w v wr pos acc) (hk : 1 ≤ k) (hl : pos + k ≤ m.length)
    (e : innerL (m.drop pos) = (innerL ((m.drop pos).drop k)).map (c :: ·)) (hg : (wr.alloc o).grownBy w1 v.ownBlock) (ho : w1.ownsRow w.heap.size 5 1 v' n (Lib.byteCells acc ++ Lib.byteCells [c])) : InAt m w v' w1 (pos + k) (acc ++ [c]) := by
  have hn : n = (acc ++ [c]).length := by have := ho.1; simp [Lib.byteCells_length] at this; simp; omega
  subst hn
  rw [← Lib.byteCells_append] at ho
  exact ⟨ho, below_grown h.bel h.bel.size h.own hg, hl, h.rel.go hk e⟩

set_option maxHeartbeats 2000000 in
set_option maxRecDepth 100000 in
theorem inner_l (m : List UInt8) (w : World) (hs : m.length ≤ 100000) :
    Calls Try.prog 31 #[.string (B m)] w fun e w' => e = .returned (innRes (innerL m)) ∧ Below w.heap.size w w' := by
  obtain ⟨i0, hi, hz0, hz1, hz2⟩ := info_parts Try.info5
  go_enter Try.func31, Try.ntmps31
  go_wp2
  go_loopw [4, 5] (fun v i wr => ∃ (pos : Nat) (acc : List UInt8), i = .int .i64 pos ∧ InAt m w v wr pos acc) (fun _ i _ => m.length - (intOf i).toNat)
  case atStart => exact ⟨0, [], rfl, World.ownsRow_nil _ _ _ _, Below.refl _ w, by omega, InRel.start m⟩
  case round =>
    obtain ⟨pos, acc, rfl, hg⟩ := hrel
    have hal := hg.rel.le
    have hle := hg.le
    have hown := hg.own
    have hsz := hg.bel.size
    have HG := Lib.hid hg; clear hg
    by_cases hp : pos < m.length
    · have hb8 := T.bt_lt m pos
      by_cases c92 : T.bt m pos = 92
      · have hc : ((T.bt m pos : Int) != 92) = false := by simp; omega
        by_cases hl2 : m.length < pos + 2
        · have hq : ((pos : Int) + 1 == (m.length : Int)) = true := by simp; omega
          have HB := Lib.hid (HG.out.rel.bad (in_short hp c92 hl2))
          clear c92
          go_wp2
          go_ret2
          rw [HB.out]
          exact ⟨rfl, HG.out.bel⟩
        have hq : ((pos : Int) + 1 == (m.length : Int)) = false := by simp; omega
        have hp1 : pos + 1 < m.length := by omega
        have hb81 := T.bt_lt m (pos + 1)
        by_cases d34 : T.bt m (pos + 1) = 34
        · have d34b : ((T.bt m (pos + 1) : Int) == 34) = true := by simp; omega
          have HE := Lib.hid (in_q hp c92 hl2 (.inl d34))
          clear c92 d34
          go_wp2_with (at_builtin; refine wpList_append_own _ rfl _ _ 39 rfl w.heap.size 5 i0 (.int .u8 0) 1 1 Try.underlying39 hi hz0 hz1 hz2 rfl (by decide) _ _ _ rfl (hown.alloc _) ⟨wr.heap.size, 0, none⟩ 1 1 [.int .u8 (T.bt m (pos + 1))] rfl rfl (cell_one_new _ _ _) (by intro u hu; simp at hu; subst hu; rfl) (by unfold maxLen; omega) (by omega) (by simp; omega) ?_; intro v' w1 hown' hgrow _)
          have R := Lib.hid (HG.out.step (k := 2) (by omega) (by omega) HE.out hgrow hown')
          clear hown' hgrow
          go_wp2
          go_roundw
          case rel => exact ⟨pos + 2, _, by go_num, R.out⟩
          case measure => simp [intOf]; omega
        have d34b : ((T.bt m (pos + 1) : Int) == 34) = false := by simp; omega
        by_cases d92 : T.bt m (pos + 1) = 92
        · have d92b : ((T.bt m (pos + 1) : Int) == 92) = true := by simp; omega
          have HE := Lib.hid (in_q hp c92 hl2 (.inr d92))
          clear c92 d34 d92
          go_wp2_with (at_builtin; refine wpList_append_own _ rfl _ _ 39 rfl w.heap.size 5 i0 (.int .u8 0) 1 1 Try.underlying39 hi hz0 hz1 hz2 rfl (by decide) _ _ _ rfl (hown.alloc _) ⟨wr.heap.size, 0, none⟩ 1 1 [.int .u8 (T.bt m (pos + 1))] rfl rfl (cell_one_new _ _ _) (by intro u hu; simp at hu; subst hu; rfl) (by unfold maxLen; omega) (by omega) (by simp; omega) ?_; intro v' w1 hown' hgrow _)
          have R := Lib.hid (HG.out.step (k := 2) (by omega) (by omega) HE.out hgrow hown')
          clear hown' hgrow
          go_wp2
          go_roundw
          case rel => exact ⟨pos + 2, _, by go_num, R.out⟩
          case measure => simp [intOf]; omega
        have d92b : ((T.bt m (pos + 1) : Int) == 92) = false := by simp; omega
        by_cases d110 : T.bt m (pos + 1) = 110
        · have d110b : ((T.bt m (pos + 1) : Int) == 110) = true := by simp; omega
          have HE := Lib.hid (in_n hp c92 hl2 d110)
          clear c92 d34 d92 d110
          go_wp2_with (at_builtin; refine wpList_append_own _ rfl _ _ 39 rfl w.heap.size 5 i0 (.int .u8 0) 1 1 Try.underlying39 hi hz0 hz1 hz2 rfl (by decide) _ _ _ rfl (hown.alloc _) ⟨wr.heap.size, 0, none⟩ 1 1 [.int .u8 (10)] rfl rfl (cell_one_new _ _ _) (by intro u hu; simp at hu; subst hu; rfl) (by unfold maxLen; omega) (by omega) (by simp; omega) ?_; intro v' w1 hown' hgrow _)
          have R := Lib.hid (HG.out.step (k := 2) (by omega) (by omega) HE.out hgrow hown')
          clear hown' hgrow
          go_wp2
          go_roundw
          case rel => exact ⟨pos + 2, _, by go_num, R.out⟩
          case measure => simp [intOf]; omega
        have d110b : ((T.bt m (pos + 1) : Int) == 110) = false := by simp; omega
        by_cases d120 : T.bt m (pos + 1) = 120
        · have d120b : ((T.bt m (pos + 1) : Int) == 120) = true := by simp; omega
          by_cases hl4 : m.length < pos + 4
          · have HB := Lib.hid (HG.out.rel.bad (in_xshort hp c92 hl2 d120 hl4))
            clear c92 d34 d92 d110 d120
            go_wp2
            go_ret2
            rw [HB.out]
            exact ⟨rfl, HG.out.bel⟩
          have hp2 : pos + 2 < m.length := by omega
          have hp3 : pos + 3 < m.length := by omega
          have HB' := Lib.hid (fun h => HG.out.rel.bad (in_xbad hp c92 hl2 d120 hl4 h))
          have HE' := Lib.hid (fun h => in_xok hp c92 hl2 d120 hl4 h)
          have hv2 := valV_bd (m.getD (pos + 2) 0)
          have hv3 := valV_bd (m.getD (pos + 3) 0)
          have V2 := Lib.hid (value_l (m.getD (pos + 2) 0))
          have V3 := Lib.hid (value_l (m.getD (pos + 3) 0))
          clear c92 d34 d92 d110 d120
          go_wp2_with fail
          refine (V2.out _).mono ?_
          rintro e w' ⟨rfl, rfl⟩
          generalize valV (m.getD (pos + 2) 0) = x2 at *
          go_wp2_with fail
          refine (V3.out _).mono ?_
          rintro e w' ⟨rfl, rfl⟩
          generalize valV (m.getD (pos + 3) 0) = x3 at *
          by_cases n2 : x2 < 0
          · have HB := Lib.hid (HB'.out (.inl n2))
            go_wp2
            go_ret2
            rw [HB.out]
            exact ⟨rfl, HG.out.bel⟩
          by_cases n3 : x3 < 0
          · have HB := Lib.hid (HB'.out (.inr n3))
            go_wp2
            go_ret2
            rw [HB.out]
            exact ⟨rfl, HG.out.bel⟩
          have HE := Lib.hid (HE'.out (by omega))
          have HBC := Lib.hid (byte_cell (16 * x2 + x3).toNat (by omega))
          have HN := Lib.hid (show (((16 * x2 + x3).toNat : Nat) : Int) = 16 * x2 + x3 by omega)
          go_wp2_with (at_builtin; refine wpList_append_own _ rfl _ _ 39 rfl w.heap.size 5 i0 (.int .u8 0) 1 1 Try.underlying39 hi hz0 hz1 hz2 rfl (by decide) _ _ _ rfl (hown.alloc _) ⟨wr.heap.size, 0, none⟩ 1 1 [.int .u8 (16 * x2 + x3)] rfl rfl (cell_one_new _ _ _) (by intro u hu; simp at hu; subst hu; rfl) (by unfold maxLen; omega) (by omega) (by simp; omega) ?_; intro v' w1 hown' hgrow _)
          rw [← HN.out, ← HBC.out] at hown'
          have R := Lib.hid (HG.out.step (k := 4) (by omega) (by omega) HE.out hgrow hown')
          clear hown' hgrow
          go_wp2
          go_roundw
          case rel => exact ⟨pos + 4, _, by go_num, R.out⟩
          case measure => simp [intOf]; omega
        · have d120b : ((T.bt m (pos + 1) : Int) == 120) = false := by simp; omega
          have HB := Lib.hid (HG.out.rel.bad (in_other hp c92 hl2 d34 d92 d110 d120))
          clear c92 d34 d92 d110 d120
          go_wp2
          go_ret2
          rw [HB.out]
          exact ⟨rfl, HG.out.bel⟩
      · have hc : ((T.bt m pos : Int) != 92) = true := by simp; omega
        have HE := Lib.hid (in_plain hp c92)
        clear c92
        go_wp2_with (at_builtin; refine wpList_append_own _ rfl _ _ 39 rfl w.heap.size 5 i0 (.int .u8 0) 1 1 Try.underlying39 hi hz0 hz1 hz2 rfl (by decide) _ _ _ rfl (hown.alloc _) ⟨wr.heap.size, 0, none⟩ 1 1 [.int .u8 (T.bt m pos)] rfl rfl (cell_one_new _ _ _) (by intro u hu; simp at hu; subst hu; rfl) (by unfold maxLen; omega) (by omega) (by simp; omega) ?_; intro v' w1 hown' hgrow _)
        have R := Lib.hid (HG.out.step (k := 1) (by omega) (by omega) HE.out hgrow hown')
        clear hown' hgrow
        go_wp2
        go_roundw
        case rel => exact ⟨pos + 1, _, by go_num, R.out⟩
        case measure => simp [intOf]; omega
    · have HS := Lib.hid (HG.out.rel.done (by omega))
      have hcv := conv_owned hown
      go_wp2
      go_ret2
      rw [HS.out]
      exact ⟨rfl, HG.out.bel⟩
end Go.Proofs.Ytnaabapahblhmaa
