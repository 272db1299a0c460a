/-
  The walk of Quote of package text.
-/
import Derived.Test.YtnaabapahblhmaaW4
import Derived.Test.YtnaabapahblhmaaSpec3
import Derived.Lib.BufferRead
import Derived.Deep.RegionLaw
import Derived.Deep.AppendLies
namespace Go.Proofs.Ytnaabapahblhmaa
open Go.RowKit

theorem conv_owned {w : World} {base : Nat} {v : Value} {n : Nat} {l : List UInt8} (h : w.ownsRow base 5 1 v n (Lib.byteCells l)) :
    (convert 39 9 v).run Try.prog w = .ok (.string (B l)) w := by
  have hn : n = l.length := by have := h.1; rw [Lib.byteCells_length] at this; omega
  subst hn
  rcases h.2 with ⟨rfl, h0⟩ | ⟨g, cap, cur, rfl, _, hg, _, _, _, ht⟩
  · have : l = [] := List.length_eq_zero_iff.1 h0
    subst this
    exact Lib.run_convert_nil_bytes w 39 9 5 0 Try.underlying39 Try.underlying5 Try.underlying9
  · exact run_convert_bytes_back w 39 9 5 ⟨g, 0, none⟩ cap l Try.underlying39 Try.underlying5 Try.underlying9 (Lib.bytes_of_row hg (by simpa using ht))

/-- append onto a row that the call owns, as a step of a region that draws its order. -/
theorem step_append_own {P : Program} {w : World} {ops : Array Oper} {o : Oper} {a : Act} {K : Act → World → Prop} {Q : Exit → Act → World → Prop} {E : Prop} (hgd : o.guard = none) (s x : Operand) (t : TypeId)
    (ho : o.op = .call { callee := .builtin .append, args := #[s, x], argTypes := #[t, t] })
    (base : Nat) (e : TypeId) (i : TypeInfo) (z : Value) (size bytes : Nat) (ht : P.underlying t = some (.slice e)) (hi : P.info? e = some i) (hz : i.zero = some z)
    (hsize : i.size = size) (hby : i.bytes = bytes) (hzs : z.cells.size = size) (hsz : 0 < size)
    (v : Value) (n : Nat) (xs : List Value) (hs : a.eval s = v) (hown : w.ownsRow base e size v n xs)
    (ad : Addr) (m c : Nat) (news : List Value) (hx : a.eval x = .slice (some ad) m c) (hl : news.length = m * size) (hnews : ∀ j u, news[j]? = some u → w.cell? (ad.add j) = some u) (h1 : ∀ u ∈ news, u.oneCell' = true)
    (h63 : n + m ≤ maxLen) (hbytes : (n + m) * bytes ≤ 140737488355328) (hbase : base ≤ w.heap.size)
    (h : ∀ v' w', w'.ownsRow base e size v' (n + m) (xs ++ news) → w.grownBy w' v.ownBlock → (v' = .slice none 0 0 ↔ v = .slice none 0 0 ∧ m = 0) → K (a.put o.dst v') w') :
    if Region.wanted o (yielded ops a.tmps) = true then Oper.wp P o a w K Q else E := by
  have hw : Region.wanted o (yielded ops a.tmps) = true := by simp [Region.wanted, hgd]
  rw [if_pos hw]
  exact wp_append_own w s x t ho base e i z size bytes ht hi hz hsize hby hzs hsz v n xs hs hown ad m c news hx hl hnews h1 h63 hbytes hbase h

theorem byte_at (s : ByteArray) (pos : Nat) (h : pos < s.size) : ((L s).drop pos).getD 0 0 = s[pos] := by
  have h1 : pos < (L s).length := by rw [L_len]; exact h
  simp [List.getD_eq_getElem?_getD, L]
  rw [Array.getElem?_eq_getElem (by simpa using h)]; rfl

def hexS : ByteArray := ⟨#[48, 49, 50, 51, 52, 53, 54, 55, 56, 57, 97, 98, 99, 100, 101, 102]⟩
theorem hex_get (n : Nat) (h : n < hexS.size) : hexS[n]'h = T.hexD n := by
  have h16 : n < 16 := h
  match n, h, h16 with
  | 0, _, _ | 1, _, _ | 2, _, _ | 3, _, _ | 4, _, _ | 5, _, _ | 6, _, _ | 7, _, _ | 8, _, _ | 9, _, _ | 10, _, _ | 11, _, _ | 12, _, _ | 13, _, _ | 14, _, _ | 15, _, _ => rfl
  | n + 16, _, h => omega
theorem bt_at (s : ByteArray) (pos : Nat) (h : pos < s.size) : T.bt ((L s).drop pos) 0 = s[pos].toNat := by
  rw [← byte_at s pos h]; rfl
theorem hex_news (s : ByteArray) (pos : Nat) (hp : pos < s.size) {h1 : ((s[pos].toNat : Int) / 16).toNat < hexS.size} {h2 : ((s[pos].toNat : Int) % 16).toNat < hexS.size} :
    [Value.int .u8 92, Value.int .u8 120, Value.int .u8 (hexS[((s[pos].toNat : Int) / 16).toNat]'h1).toNat, Value.int .u8 (hexS[((s[pos].toNat : Int) % 16).toNat]'h2).toNat] =
      Lib.byteCells [92, 120, T.hexD (T.bt ((L s).drop pos) 0 / 16), T.hexD (T.bt ((L s).drop pos) 0 % 16)] := by
  have e1 : ((s[pos].toNat : Int) / 16).toNat = s[pos].toNat / 16 := by omega
  have e2 : ((s[pos].toNat : Int) % 16).toNat = s[pos].toNat % 16 := by omega
  rw [hex_get, hex_get, bt_at s pos hp, e1, e2]; rfl

theorem grown_drew {w w' : World} {r : Option Nat} (h : w.drew.grownBy w' r) : w.grownBy w' r := ⟨h.os, h.tape, h.output, h.size, h.block⟩

structure QAt (s : ByteArray) (w : World) (v : Value) (wr : World) (pos : Nat) (acc : List UInt8) : Prop where
  own : wr.ownsRow w.heap.size 5 1 v acc.length (Lib.byteCells acc)
  it : wr.heap[w.heap.size + 1]? = some (.stringIter s pos)
  bel : Below w.heap.size w wr
  le : pos ≤ s.size
  rel : T.QRel (L s) pos acc

theorem QAt.size {s : ByteArray} {w : World} {v : Value} {wr : World} {pos : Nat} {acc : List UInt8} (h : QAt s w v wr pos acc) : w.heap.size + 1 < wr.heap.size := (Array.getElem?_eq_some_iff.1 h.it).1
theorem QAt.step {s : ByteArray} {w : World} {v v' : Value} {wr w1 : World} {pos n : Nat} {acc p : List UInt8} {o : Obj} (h : QAt s w v wr pos acc) (hp : pos < s.size) (hpc : T.piece ((L s).drop pos) = p)
    (hg : ((wr.iterAt (w.heap.size + 1) s (pos + widAt s pos)).alloc o).grownBy w1 v.ownBlock) (ho : w1.ownsRow w.heap.size 5 1 v' n (Lib.byteCells acc ++ Lib.byteCells p)) : QAt s w v' w1 (pos + widAt s pos) (acc ++ p) := by
  have hsz := h.size
  have hit2 := Lib.iterAt_heap wr (w.heap.size + 1) s pos (pos + widAt s pos) h.it
  have hbw2 := Lib.below_iterAt h.bel (k := w.heap.size + 1) (by omega) s (pos + widAt s pos)
  have hown2 := own_iterAt h.own h.it (pos + widAt s pos)
  have hsz2 : w.heap.size ≤ (wr.iterAt (w.heap.size + 1) s (pos + widAt s pos)).heap.size := by rw [Lib.iterAt_size]; omega
  have hn : n = (acc ++ p).length := by have := ho.1; simp [Lib.byteCells_length] at this; simp; omega
  subst hn
  rw [← Lib.byteCells_append] at ho
  exact ⟨ho, iter_grown hown2 hit2 hg, below_grown hbw2 hsz2 hown2 hg, (wid_at s pos hp).2, h.rel.go (ne_at s pos hp) hpc⟩

set_option maxHeartbeats 400000 in
theorem Quote_any (s : ByteArray) (w : World) (hs : s.size ≤ 1000000) :
    Calls Try.prog 19 #[.string s] w fun e w' => e = .returned (.string (B (T.quoteL (L s)))) ∧ Below w.heap.size w w' := by
  obtain ⟨i0, hi, hz0, hz1, hz2⟩ := info_parts Try.info5
  go_enter Try.func19, Try.ntmps19
  go_wp2
  go_loopw [3] (fun v wr => ∃ (pos : Nat) (acc : List UInt8), QAt s w v wr pos acc) (fun _ wr => s.size - wr.iterPos (w.heap.size + 1))
  case atStart =>
    refine ⟨0, [34], (World.ownsRow_lit w #[.int .u8 34] 1 (Nat.le_refl _) (by decide) rfl).alloc _, ?_, ((Below.refl _ w).alloc (Nat.le_refl _) _).alloc (by simp) _, by omega, T.QRel.start _⟩
    have := World.iter_heap (w.alloc (.cells #[.int .u8 34] 5)) s 0
    simpa using this
  case round =>
    rename_i v
    obtain ⟨pos, acc, hg⟩ := hrel
    have hsz := hg.size
    have hal := hg.rel.le
    have hle := hg.le
    have hit := hg.it
    have hown := hg.own
    have HG := Lib.hid hg; clear hg
    by_cases hp : pos < s.size
    · have hnx : ∀ ty, (Instr.next (.pointer (some ⟨w.heap.size + 1, 0, none⟩)) true ty).run Try.prog wr = _ := fun ty => next_at wr (w.heap.size + 1) s pos ty hit hp
      have hwd := wid_at s pos hp
      have hne := ne_at s pos hp
      have HNE := Lib.hid hne; clear hne
      have hown2 := own_iterAt hown hit (pos + widAt s pos)
      have hsz2 : w.heap.size ≤ (wr.iterAt (w.heap.size + 1) s (pos + widAt s pos)).heap.size := by rw [Lib.iterAt_size]; omega
      have hnb := num_at_bd s pos
      by_cases c1 : numAt s pos = 34
      · have HP := Lib.hid ((T.piece_quote (m := (L s).drop pos) (.inl c1)).trans (by rw [byte_at s pos hp]))
        have c1b : (numAt s pos == 34) = true := beq_iff_eq.2 c1
        clear c1
        go_wp2_with (first
          | (go_at_call 27; refine (runeNumber_at s pos _ (by omega)).mono ?_; rintro e w' ⟨rfl, rfl⟩)
          | (at_builtin; refine wpList_append_own _ rfl _ _ 39 rfl w.heap.size 5 i0 (.int .u8 0) 1 1 Try.underlying39 hi hz0 hz1 hz2 rfl (by decide) _ _ _ rfl (hown2.alloc _) ⟨(wr.iterAt (w.heap.size + 1) s (pos + widAt s pos)).heap.size, 0, none⟩ 2 2 [.int .u8 92, .int .u8 s[pos].toNat] rfl rfl (cell_two_new _ _ _ _) (by intro u hu; simp at hu; rcases hu with rfl | rfl <;> rfl) (by unfold maxLen; omega) (by omega) (by simp; omega) ?_; intro v' w1 hown' hgrow _))
        have R := Lib.hid (HG.out.step hp HP.out hgrow hown')
        have hit3 := R.out.it
        clear hown' hgrow
        go_wp2
        go_roundw
        case rel => exact ⟨_, _, R.out⟩
        case measure =>
          simp only [World.iterPos, hit3, hit]
          omega
      · have c1b : (numAt s pos == 34) = false := beq_eq_false_iff_ne.2 c1
        by_cases c2 : numAt s pos = 92
        · have HP := Lib.hid ((T.piece_quote (m := (L s).drop pos) (.inr c2)).trans (by rw [byte_at s pos hp]))
          have c2b : (numAt s pos == 92) = true := beq_iff_eq.2 c2
          clear c1 c2
          go_wp2_with (first
            | (go_at_call 27; refine (runeNumber_at s pos _ (by omega)).mono ?_; rintro e w' ⟨rfl, rfl⟩)
            | (at_builtin; refine wpList_append_own _ rfl _ _ 39 rfl w.heap.size 5 i0 (.int .u8 0) 1 1 Try.underlying39 hi hz0 hz1 hz2 rfl (by decide) _ _ _ rfl (hown2.alloc _) ⟨(wr.iterAt (w.heap.size + 1) s (pos + widAt s pos)).heap.size, 0, none⟩ 2 2 [.int .u8 92, .int .u8 s[pos].toNat] rfl rfl (cell_two_new _ _ _ _) (by intro u hu; simp at hu; rcases hu with rfl | rfl <;> rfl) (by unfold maxLen; omega) (by omega) (by simp; omega) ?_; intro v' w1 hown' hgrow _))
          have R := Lib.hid (HG.out.step hp HP.out hgrow hown')
          have hit3 := R.out.it
          clear hown' hgrow
          go_wp2
          go_roundw
          case rel => exact ⟨_, _, R.out⟩
          case measure =>
            simp only [World.iterPos, hit3, hit]
            omega
        · have c2b : (numAt s pos == 92) = false := beq_eq_false_iff_ne.2 c2
          have c12 : ¬ (numAt s pos = 34 ∨ numAt s pos = 92) := by omega
          by_cases c3 : numAt s pos = 10
          · have HP := Lib.hid (T.piece_line (m := (L s).drop pos) c3)
            have c3b : (numAt s pos == 10) = true := beq_iff_eq.2 c3
            clear c1 c2 c3 c12
            go_wp2_with (first
              | (go_at_call 27; refine (runeNumber_at s pos _ (by omega)).mono ?_; rintro e w' ⟨rfl, rfl⟩)
              | (at_builtin; refine wpList_append_own _ rfl _ _ 39 rfl w.heap.size 5 i0 (.int .u8 0) 1 1 Try.underlying39 hi hz0 hz1 hz2 rfl (by decide) _ _ _ rfl (hown2.alloc _) ⟨(wr.iterAt (w.heap.size + 1) s (pos + widAt s pos)).heap.size, 0, none⟩ 2 2 [.int .u8 92, .int .u8 110] rfl rfl (cell_two_new _ _ _ _) (by intro u hu; simp at hu; rcases hu with rfl | rfl <;> rfl) (by unfold maxLen; omega) (by omega) (by simp; omega) ?_; intro v' w1 hown' hgrow _))
            have R := Lib.hid (HG.out.step hp HP.out hgrow hown')
            have hit3 := R.out.it
            clear hown' hgrow
            go_wp2
            go_roundw
            case rel => exact ⟨_, _, R.out⟩
            case measure =>
              simp only [World.iterPos, hit3, hit]
              omega
          · have c3b : (numAt s pos == 10) = false := beq_eq_false_iff_ne.2 c3
            by_cases c4 : numAt s pos < 32 ∨ numAt s pos = 127
            · have HP := Lib.hid (T.piece_hid (m := (L s).drop pos) c12 c3 c4)
              have c4b : (decide (numAt s pos < 32) || numAt s pos == 127) = true := by simpa using c4
              clear c1 c2 c3 c12 c4
              have hsi : (pos : Int) < (s.size : Int) := by omega
              go_wp2_with (first
                | (go_at_call 27; refine (runeNumber_at s pos _ (by omega)).mono ?_; rintro e w' ⟨rfl, rfl⟩)
                | (go_at_call 32; refine (isHidden_any _ _).mono ?_; rintro e w' ⟨rfl, rfl⟩))
              have hb0 := s[pos].toNat_lt
              have h16a : (0 : Int) ≤ (s[pos].toNat : Int) / 16 := by omega
              have h16b : (s[pos].toNat : Int) / 16 < 16 := by omega
              have h16c : (0 : Int) ≤ (s[pos].toNat : Int) % 16 := by omega
              have h16d : (s[pos].toNat : Int) % 16 < 16 := by omega
              have hand : bits .and .u8 (s[pos].toNat : Int) 15 = (s[pos].toNat : Int) % 16 := u8_and15 _ (by omega) (by omega)
              go_region_law (refine step_append_own rfl (.tmp 43) (.tmp 54) 39 rfl w.heap.size 5 i0 (.int .u8 0) 1 1 Try.underlying39 hi hz0 hz1 hz2 rfl (by decide) _ _ _ (by simp [Act.eval]) (hown2.alloc _) _ 4 4 _ (by simp [Act.eval]) rfl (World.news_of_block (heap_alloc_new _ _)) (by intro u hu; simp at hu; rcases hu with rfl | rfl | rfl | rfl <;> rfl) (by unfold maxLen; omega) (by omega) (by simp; omega) ?_; intro v' w1 hown' hgrow _)
              all_goals
                have hown3 : w1.ownsRow w.heap.size 5 1 v' (acc.length + 4) (Lib.byteCells acc ++ Lib.byteCells [92, 120, T.hexD (T.bt ((L s).drop pos) 0 / 16), T.hexD (T.bt ((L s).drop pos) 0 % 16)]) := by rw [← hex_news s pos hp]; exact hown'
                have R := Lib.hid (HG.out.step hp HP.out (grown_drew hgrow) hown3)
                have hit3 := R.out.it
                clear hown' hgrow hown3 hand
                go_wp2
                go_roundw
                case rel => first | exact ⟨_, _, R.out⟩ | ((repeat apply Exists.intro); exact ⟨⟨_, _, R.out⟩, rfl⟩)
                case measure =>
                  simp only [World.iterPos, hit3, hit]
                  omega
            · have HP := Lib.hid (T.piece_as (m := (L s).drop pos) c12 c3 c4)
              have c4b : (decide (numAt s pos < 32) || numAt s pos == 127) = false := by simp; omega
              have HE := Lib.hid (T.encode_num (l := (L s).drop pos) HNE.out (by show 0 ≤ numAt s pos; omega))
              clear c1 c2 c3 c12 c4
              go_wp2_with (first
                | (go_at_call 27; refine (runeNumber_at s pos _ (by omega)).mono ?_; rintro e w' ⟨rfl, rfl⟩)
                | (go_at_call 32; refine (isHidden_any _ _).mono ?_; rintro e w' ⟨rfl, rfl⟩)
                | (go_at_call 33; refine (Try.utf8_AppendRune_plain w.heap.size _ acc.length _ (numAt s pos) (by omega) (by omega) _ hown2 (by omega) hsz2).mono ?_; rintro e w1 ⟨v', rfl, hown', o, hgrow⟩))
              rw [← Lib.byteCells_encodeRune] at hown'
              have R := Lib.hid (HG.out.step hp (HP.out.trans HE.out.symm) hgrow hown')
              have hit3 := R.out.it
              clear hown' hgrow
              go_wp2
              go_roundw
              case rel => exact ⟨_, _, R.out⟩
              case measure =>
                simp only [World.iterPos, hit3, hit]
                omega
    · have hnx : ∀ ty, (Instr.next (.pointer (some ⟨w.heap.size + 1, 0, none⟩)) true ty).run Try.prog wr = _ := fun ty => Lib.run_next_end_at wr (w.heap.size + 1) s pos ty hit hp
      have HS := Lib.hid (HG.out.rel.done (by rw [L_len]; omega))
      go_wp2_with (at_builtin; refine wpList_append_own _ rfl _ _ 39 rfl w.heap.size 5 i0 (.int .u8 0) 1 1 Try.underlying39 hi hz0 hz1 hz2 rfl (by decide) _ _ _ rfl (hown.alloc _) ⟨wr.heap.size, 0, none⟩ 1 1 [.int .u8 34] rfl rfl (cell_one_new _ _ _) (by intro u hu; simp at hu; subst hu; rfl) (by unfold maxLen; omega) (by omega) (by simp; omega) ?_; intro v' w1 hown' hgrow _; have hcv := conv_owned (l := acc ++ [34]) (by rw [Lib.byteCells_append]; exact hown'))
      go_ret
      rw [HS.out]
      exact ⟨rfl, below_grown HG.out.bel (by omega) hown hgrow⟩
end Go.Proofs.Ytnaabapahblhmaa
