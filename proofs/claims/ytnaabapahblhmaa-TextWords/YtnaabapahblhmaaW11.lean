/-
  The walk of Line of package text.
-/
import Derived.Test.YtnaabapahblhmaaW10
import Derived.Lib.AppendStr
namespace Go.Proofs.Ytnaabapahblhmaa
open Go.RowKit
attribute [local go_sem] ext_Bd ext_Bt toList_B add_B size_B

def wordQ (w : List UInt8) : List UInt8 := if plainL w then w else T.quoteL w
def lineF (ws : List (List UInt8)) : List UInt8 :=
  match ws with
  | [] => []
  | w :: r => wordQ w ++ r.flatMap fun x => 32 :: wordQ x
theorem lineF_first {ws : List (List UInt8)} {k : Nat} (h : k < ws.length) (hk : ¬ 0 < k) : lineF (ws.take (k + 1)) = lineF (ws.take k) ++ wordQ ws[k] := by
  obtain rfl : k = 0 := by omega
  match ws, h with
  | w :: r, _ => simp [lineF]
theorem lineF_next {ws : List (List UInt8)} {k : Nat} (h : k < ws.length) (hk : 0 < k) : lineF (ws.take (k + 1)) = (lineF (ws.take k) ++ [32]) ++ wordQ ws[k] := by
  match ws, k, h, hk with
  | w :: r, k + 1, h, _ =>
    have h2 : k < r.length := by simpa using h
    show wordQ w ++ (r.take (k + 1)).flatMap (fun x => 32 :: wordQ x) = ((wordQ w ++ (r.take k).flatMap (fun x => 32 :: wordQ x)) ++ [32]) ++ wordQ r[k]
    rw [List.take_succ_eq_append_getElem h2, List.flatMap_append]
    simp
theorem wordQ_len (w : List UInt8) : (wordQ w).length ≤ 4 * w.length + 2 := by
  unfold wordQ
  split
  · omega
  · exact T.quoteL_len w
theorem isPlain_l (m : List UInt8) (w : World) (hs : m.length ≤ 1000000) :
    Calls Try.prog 38 #[.string (B m)] w fun e w' => e = .returned (.bool (plainL m)) ∧ Below w.heap.size w w' := by
  have := isPlain_any (B m) w (by rw [size_B]; exact hs)
  rwa [L_B] at this
theorem str_B (l : List UInt8) : Lib.strCells (B l) = Lib.byteCells l := by
  unfold Lib.strCells Lib.byteCells
  rw [show (B l).data.toList = l from L_B l]

structure LRel (ws : List (List UInt8)) (w : World) (v : Value) (wr : World) (k : Nat) : Prop where
  own : wr.ownsRow w.heap.size 5 1 v (lineF (ws.take k)).length (Lib.byteCells (lineF (ws.take k)))
  bel : Below w.heap.size w wr
  len : (lineF (ws.take k)).length ≤ k * 4003

set_option maxHeartbeats 1000000 in
set_option maxRecDepth 100000 in
theorem Line_l (ws : List (List UInt8)) (va : Value) (w : World) (ha : Reads w va (strCells ws)) (hn : ws.length ≤ 100) (hl : ∀ x ∈ ws, x.length ≤ 1000) :
    Calls Try.prog 25 #[va] w fun e w' => e = .returned (.string (B (lineF ws))) ∧ Below w.heap.size w w' := by
  obtain ⟨i0, hi, hz0, hz1, hz2⟩ := info_parts Try.info5
  obtain ⟨a, ca, rfl, hxa⟩ := ha
  simp only [strCells_len] at *
  have HXA := Lib.hid hxa; clear hxa
  have HL := Lib.hid hl; clear hl
  go_enter Try.func25, Try.ntmps25
  go_wp2
  go_loopw [3, 8] (fun v i wr => ∃ k : Nat, i = .int .i64 k ∧ k ≤ ws.length ∧ LRel ws w v wr k) (fun _ i _ => ws.length - (intOf i).toNat)
  case atStart => exact ⟨0, rfl, Nat.zero_le _, ⟨World.ownsRow_nil _ _ _ _, Below.refl _ w, by simp [lineF]⟩⟩
  case round =>
    obtain ⟨k, rfl, hk, hrel⟩ := hrel
    have hown := hrel.own
    have hbel := hrel.bel
    have hlen := hrel.len
    have hsz := hbel.size
    clear hrel
    by_cases hlt : k < ws.length
    · obtain ⟨b1, o1, rfl, hc1⟩ := HXA.out k hlt
      have hcell : wr.cell? ⟨b1, o1 + k, none⟩ = some (.string (B ws[k])) := by
        have : w.cell? ⟨b1, o1 + k, none⟩ = some (.string (B ws[k])) := by rw [hc1]; simp [strCells, hlt]
        rw [hbel.cell (World.block_lt_of_cell? w _ this)]; exact this
      have hwl := HL.out ws[k] (List.getElem_mem hlt)
      have hi1 : (k : Int) < (ws.length : Int) := by omega
      clear hc1
      cases hp : plainL ws[k]
      · by_cases hk0 : 0 < k
        · have HF := Lib.hid (lineF_next hlt hk0)
          have hkd : decide ((0 : Int) < (k : Int)) = true := by simp; omega
          have hlen2 : (lineF (ws.take k)).length ≤ 400300 := by omega
          have HQ := Lib.hid (show wordQ ws[k] = T.quoteL ws[k] by simp [wordQ, hp])
          have hql := wordQ_len ws[k]
          rw [HQ.out] at hql
          have HP := Lib.hid hp; clear hp
          generalize ws[k] = x at *
          generalize lineF (ws.take k) = acc at *
          go_wp2_with (at_builtin; refine wpList_append_own _ rfl (.tmp 15) (.tmp 16) 39 rfl w.heap.size 5 i0 (.int .u8 0) 1 1 Try.underlying39 hi hz0 hz1 hz2 rfl (by decide) _ _ _ rfl (hown.alloc _) ⟨wr.heap.size, 0, none⟩ 1 1 [.int .u8 32] rfl rfl (cell_one_new _ _ _) (by intro u hu; simp at hu; subst hu; rfl) (by unfold maxLen; omega) (by omega) (by simp; omega) ?_; intro v1 w1 ho1 hg1 _)
          have ho1' : w1.ownsRow w.heap.size 5 1 v1 (acc ++ [32]).length (Lib.byteCells (acc ++ [32])) := by simpa [Lib.byteCells] using ho1
          have hb1 := below_grown hbel hsz hown hg1
          clear ho1 hg1 hown hbel hcell
          refine (isPlain_l x _ (by omega)).mono ?_
          rintro e w2 ⟨rfl, hb2⟩
          rw [HP.out]
          have ho2 := own_below ho1' hb2
          have hbb2 := hb1.trans (hb2.mono hb1.size)
          have hsz2 := hbb2.size
          clear ho1' hb1 hb2
          go_wp2_with fail
          refine (Quote_l x _ (by omega)).mono ?_
          rintro e w3 ⟨rfl, hb3⟩
          have ho3 := own_below ho2 hb3
          have hbb3 := hbb2.trans (hb3.mono hbb2.size)
          have hsz3 := hbb3.size
          clear ho2 hbb2 hb3
          have hal : (acc ++ [32]).length ≤ 400301 := by simp; omega
          go_wp2_with (at_builtin; refine Lib.wpList_append_own_string _ rfl (.tmp 23) (.tmp 24) 39 9 rfl w.heap.size 5 i0 Try.underlying39 Try.underlying9 hi hz0 hz1 hz2 _ _ _ rfl ho3 (B (T.quoteL x)) rfl (by rw [size_B]; unfold maxLen; omega) (by rw [size_B]; omega) (by omega) ?_; intro v4 w4 ho4 hg4 _)
          have hb5 : Below w.heap.size w w4 := hbb3.grown hg4 hsz3 (fun k hk => (ho3.lt k hk).1)
          have ho5 : w4.ownsRow w.heap.size 5 1 v4 ((acc ++ [32]) ++ (T.quoteL x)).length (Lib.byteCells ((acc ++ [32]) ++ (T.quoteL x))) := by rw [Lib.byteCells_append, List.length_append, ← str_B (T.quoteL x), ← size_B (T.quoteL x)]; exact ho4
          have R : LRel ws w v4 w4 (k + 1) := ⟨by rw [HF.out, HQ.out]; exact ho5, hb5, by rw [HF.out, HQ.out]; simp; omega⟩
          have HR := Lib.hid R
          clear R ho4 hg4 ho5 hb5
          go_wp2
          go_roundw
          case rel => exact ⟨k + 1, by go_num, by omega, HR.out⟩
          case measure => simp [intOf]; omega
        · have HF := Lib.hid (lineF_first hlt hk0)
          have hkd : decide (0 < k) = false := by simpa using hk0
          have hlen2 : (lineF (ws.take k)).length ≤ 400300 := by omega
          have HQ := Lib.hid (show wordQ ws[k] = T.quoteL ws[k] by simp [wordQ, hp])
          have hql := wordQ_len ws[k]
          rw [HQ.out] at hql
          have HP := Lib.hid hp; clear hp
          generalize ws[k] = x at *
          generalize lineF (ws.take k) = acc at *
          have ho1' := hown
          have hb1 := hbel
          go_wp2_with fail
          clear hown hbel hcell
          refine (isPlain_l x _ (by omega)).mono ?_
          rintro e w2 ⟨rfl, hb2⟩
          rw [HP.out]
          have ho2 := own_below ho1' hb2
          have hbb2 := hb1.trans (hb2.mono hb1.size)
          have hsz2 := hbb2.size
          clear ho1' hb1 hb2
          go_wp2_with fail
          refine (Quote_l x _ (by omega)).mono ?_
          rintro e w3 ⟨rfl, hb3⟩
          have ho3 := own_below ho2 hb3
          have hbb3 := hbb2.trans (hb3.mono hbb2.size)
          have hsz3 := hbb3.size
          clear ho2 hbb2 hb3
          go_wp2_with (at_builtin; refine Lib.wpList_append_own_string _ rfl (.tmp 23) (.tmp 24) 39 9 rfl w.heap.size 5 i0 Try.underlying39 Try.underlying9 hi hz0 hz1 hz2 _ _ _ rfl ho3 (B (T.quoteL x)) rfl (by rw [size_B]; unfold maxLen; omega) (by rw [size_B]; omega) (by omega) ?_; intro v4 w4 ho4 hg4 _)
          have hb5 : Below w.heap.size w w4 := hbb3.grown hg4 hsz3 (fun k hk => (ho3.lt k hk).1)
          have ho5 : w4.ownsRow w.heap.size 5 1 v4 (acc ++ (T.quoteL x)).length (Lib.byteCells (acc ++ (T.quoteL x))) := by rw [Lib.byteCells_append, List.length_append, ← str_B (T.quoteL x), ← size_B (T.quoteL x)]; exact ho4
          have R : LRel ws w v4 w4 (k + 1) := ⟨by rw [HF.out, HQ.out]; exact ho5, hb5, by rw [HF.out, HQ.out]; simp; omega⟩
          have HR := Lib.hid R
          clear R ho4 hg4 ho5 hb5
          go_wp2
          go_roundw
          case rel => exact ⟨k + 1, by go_num, by omega, HR.out⟩
          case measure => simp [intOf]; omega
      · by_cases hk0 : 0 < k
        · have HF := Lib.hid (lineF_next hlt hk0)
          have hkd : decide ((0 : Int) < (k : Int)) = true := by simp; omega
          have hlen2 : (lineF (ws.take k)).length ≤ 400300 := by omega
          have HQ := Lib.hid (show wordQ ws[k] = ws[k] by simp [wordQ, hp])
          have hql := wordQ_len ws[k]
          rw [HQ.out] at hql
          have HP := Lib.hid hp; clear hp
          generalize ws[k] = x at *
          generalize lineF (ws.take k) = acc at *
          go_wp2_with (at_builtin; refine wpList_append_own _ rfl (.tmp 15) (.tmp 16) 39 rfl w.heap.size 5 i0 (.int .u8 0) 1 1 Try.underlying39 hi hz0 hz1 hz2 rfl (by decide) _ _ _ rfl (hown.alloc _) ⟨wr.heap.size, 0, none⟩ 1 1 [.int .u8 32] rfl rfl (cell_one_new _ _ _) (by intro u hu; simp at hu; subst hu; rfl) (by unfold maxLen; omega) (by omega) (by simp; omega) ?_; intro v1 w1 ho1 hg1 _)
          have ho1' : w1.ownsRow w.heap.size 5 1 v1 (acc ++ [32]).length (Lib.byteCells (acc ++ [32])) := by simpa [Lib.byteCells] using ho1
          have hb1 := below_grown hbel hsz hown hg1
          clear ho1 hg1 hown hbel hcell
          refine (isPlain_l x _ (by omega)).mono ?_
          rintro e w2 ⟨rfl, hb2⟩
          rw [HP.out]
          have ho2 := own_below ho1' hb2
          have hbb2 := hb1.trans (hb2.mono hb1.size)
          have hsz2 := hbb2.size
          clear ho1' hb1 hb2
          have hal : (acc ++ [32]).length ≤ 400301 := by simp; omega
          go_wp2_with (at_builtin; refine Lib.wpList_append_own_string _ rfl (.tmp 23) (.tmp 24) 39 9 rfl w.heap.size 5 i0 Try.underlying39 Try.underlying9 hi hz0 hz1 hz2 _ _ _ rfl ho2 (B x) rfl (by rw [size_B]; unfold maxLen; omega) (by rw [size_B]; omega) (by omega) ?_; intro v4 w4 ho4 hg4 _)
          have hb5 : Below w.heap.size w w4 := hbb2.grown hg4 hsz2 (fun k hk => (ho2.lt k hk).1)
          have ho5 : w4.ownsRow w.heap.size 5 1 v4 ((acc ++ [32]) ++ x).length (Lib.byteCells ((acc ++ [32]) ++ x)) := by rw [Lib.byteCells_append, List.length_append, ← str_B x, ← size_B x]; exact ho4
          have R : LRel ws w v4 w4 (k + 1) := ⟨by rw [HF.out, HQ.out]; exact ho5, hb5, by rw [HF.out, HQ.out]; simp; omega⟩
          have HR := Lib.hid R
          clear R ho4 hg4 ho5 hb5
          go_wp2
          go_roundw
          case rel => exact ⟨k + 1, by go_num, by omega, HR.out⟩
          case measure => simp [intOf]; omega
        · have HF := Lib.hid (lineF_first hlt hk0)
          have hkd : decide (0 < k) = false := by simpa using hk0
          have hlen2 : (lineF (ws.take k)).length ≤ 400300 := by omega
          have HQ := Lib.hid (show wordQ ws[k] = ws[k] by simp [wordQ, hp])
          have hql := wordQ_len ws[k]
          rw [HQ.out] at hql
          have HP := Lib.hid hp; clear hp
          generalize ws[k] = x at *
          generalize lineF (ws.take k) = acc at *
          have ho1' := hown
          have hb1 := hbel
          go_wp2_with fail
          clear hown hbel hcell
          refine (isPlain_l x _ (by omega)).mono ?_
          rintro e w2 ⟨rfl, hb2⟩
          rw [HP.out]
          have ho2 := own_below ho1' hb2
          have hbb2 := hb1.trans (hb2.mono hb1.size)
          have hsz2 := hbb2.size
          clear ho1' hb1 hb2
          go_wp2_with (at_builtin; refine Lib.wpList_append_own_string _ rfl (.tmp 23) (.tmp 24) 39 9 rfl w.heap.size 5 i0 Try.underlying39 Try.underlying9 hi hz0 hz1 hz2 _ _ _ rfl ho2 (B x) rfl (by rw [size_B]; unfold maxLen; omega) (by rw [size_B]; omega) (by omega) ?_; intro v4 w4 ho4 hg4 _)
          have hb5 : Below w.heap.size w w4 := hbb2.grown hg4 hsz2 (fun k hk => (ho2.lt k hk).1)
          have ho5 : w4.ownsRow w.heap.size 5 1 v4 (acc ++ x).length (Lib.byteCells (acc ++ x)) := by rw [Lib.byteCells_append, List.length_append, ← str_B x, ← size_B x]; exact ho4
          have R : LRel ws w v4 w4 (k + 1) := ⟨by rw [HF.out, HQ.out]; exact ho5, hb5, by rw [HF.out, HQ.out]; simp; omega⟩
          have HR := Lib.hid R
          clear R ho4 hg4 ho5 hb5
          go_wp2
          go_roundw
          case rel => exact ⟨k + 1, by go_num, by omega, HR.out⟩
          case measure => simp [intOf]; omega
    · have HT := Lib.hid (show ws.take k = ws from List.take_of_length_le (by omega))
      have hcv := conv_owned hown
      go_wp2
      go_ret
      rw [HT.out]
      exact ⟨rfl, hbel⟩
end Go.Proofs.Ytnaabapahblhmaa
