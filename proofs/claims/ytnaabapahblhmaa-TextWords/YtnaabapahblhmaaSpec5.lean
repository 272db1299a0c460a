/-
  Plain facts of texts: what unescape makes of what Quote tells is the text; two unlike texts have unlike quotes. No program in this text.
-/
import Derived.Test.YtnaabapahblhmaaSpec4
namespace Go.Proofs.Ytnaabapahblhmaa.T

theorem decN_one {x : UInt8} {X : List UInt8} (h : x.toNat < 128) : decN (x :: X) = (x.toNat, 1) := by
  simp [decN, bt, Lib.decodeN, h]
theorem decN_two {x y : UInt8} {X : List UInt8} (h0 : x.toNat / 32 = 6) (h1 : y.toNat / 64 = 2) (h : 128 ≤ x.toNat % 32 * 64 + y.toNat % 64) : decN (x :: y :: X) = (x.toNat % 32 * 64 + y.toNat % 64, 2) := by
  have a : ¬ x.toNat < 128 := by omega
  simp [decN, bt, Lib.decodeN, h0, h1, h, a]
theorem decN_three {x y z : UInt8} {X : List UInt8} {v : Nat} (h0 : x.toNat / 16 = 14) (h1 : y.toNat / 64 = 2) (h2 : z.toNat / 64 = 2) (hv : v = x.toNat % 16 * 4096 + y.toNat % 64 * 64 + z.toNat % 64)
    (h : 2048 ≤ v ∧ (v < 55296 ∨ 57344 ≤ v)) : decN (x :: y :: z :: X) = (v, 3) := by
  have a : ¬ x.toNat < 128 := by omega
  have b : ¬ x.toNat / 32 = 6 := by omega
  have hz := z.toNat_lt
  have c : v ≥ 2048 ∧ (v < 55296 ∨ 57344 ≤ v ∧ v ≤ 1114111) := by omega
  simp only [decN, bt, Lib.decodeN, List.getD_cons_zero, List.getD_cons_succ, if_neg a, b, false_and, if_false, ← hv, if_pos c]
  rw [if_pos ⟨h0, ⟨by simp, h1⟩, ⟨by simp, h2⟩⟩]
theorem decN_four {x y z t : UInt8} {X : List UInt8} {v : Nat} (h0 : x.toNat / 8 = 30) (h1 : y.toNat / 64 = 2) (h2 : z.toNat / 64 = 2) (h3 : t.toNat / 64 = 2)
    (hv : v = x.toNat % 8 * 262144 + y.toNat % 64 * 4096 + z.toNat % 64 * 64 + t.toNat % 64) (h : 65536 ≤ v ∧ v ≤ 1114111) : decN (x :: y :: z :: t :: X) = (v, 4) := by
  have a : ¬ x.toNat < 128 := by omega
  have b : ¬ x.toNat / 32 = 6 := by omega
  have b2 : ¬ x.toNat / 16 = 14 := by omega
  have c : v ≥ 65536 ∧ (v < 55296 ∨ 57344 ≤ v ∧ v ≤ 1114111) := by omega
  simp only [decN, bt, Lib.decodeN, List.getD_cons_zero, List.getD_cons_succ, if_neg a, b, b2, false_and, if_false, ← hv, if_pos c]
  rw [if_pos ⟨h0, ⟨by simp, h1⟩, ⟨by simp, h2⟩, ⟨by simp, h3⟩⟩]

/-- A rune that is one is read of its own bytes, whatever stands behind. -/
theorem dec_local {l : List UInt8} (h : l ≠ []) (hn : 0 ≤ num l) (X : List UInt8) : decN (l.take (wid l) ++ X) = decN l := by
  rcases dec_cases l with ⟨a, e⟩ | ⟨a, e⟩ | ⟨hl, a, b, v, hv, hh, e⟩ | ⟨hl, a, b, c, v, hv, hh, e⟩ | ⟨hl, a, b, c, d, v, hv, hh, e⟩
  · have ew : wid l = 1 := by simp [wid, e]
    rw [e, ew]
    match l, h with
    | x :: r, _ => exact decN_one (by simpa [bt] using a)
  · simp [num, e] at hn
  · have ew : wid l = 2 := by simp [wid, e]
    rw [e, ew]
    obtain ⟨x, y, r, rfl⟩ := of2 hl
    simp only [bt, List.getD_cons_zero, List.getD_cons_succ] at a b hv
    rw [hv]
    exact decN_two a b (by omega)
  · have ew : wid l = 3 := by simp [wid, e]
    rw [e, ew]
    obtain ⟨x, y, z, r, rfl⟩ := of3 hl
    simp only [bt, List.getD_cons_zero, List.getD_cons_succ] at a b c hv
    exact decN_three a b c hv hh
  · have ew : wid l = 4 := by simp [wid, e]
    rw [e, ew]
    obtain ⟨x, y, z, t, r, rfl⟩ := of4 hl
    simp only [bt, List.getD_cons_zero, List.getD_cons_succ] at a b c d hv
    exact decN_four a b c d hv hh

theorem take_wid {l : List UInt8} (h : l ≠ []) : (l.take (wid l)).length = wid l := by
  have := wid_le h
  simp; omega
theorem scan_local {α : Type} (g : List UInt8 → List α) {l : List UInt8} (h : l ≠ []) (hn : 0 ≤ num l) (X : List UInt8) :
    scan g (l.take (wid l) ++ X) = g (l.take (wid l) ++ X) ++ scan g X := by
  have hw := wid_pos l
  have hl := take_wid h
  have hne : l.take (wid l) ++ X ≠ [] := by
    intro e
    have := congrArg List.length e
    rw [List.length_append, hl] at this
    simp at this; omega
  have ew : wid (l.take (wid l) ++ X) = wid l := congrArg Prod.snd (dec_local h hn X)
  rw [scan_cons g hne, ew]
  congr 2
  rw [List.drop_append, hl]
  simp [List.drop_of_length_le (Nat.le_of_eq hl)]
theorem raws_local {l : List UInt8} (h : l ≠ []) (hn : 0 ≤ num l) (X : List UInt8) : raws (l.take (wid l) ++ X) = num l :: raws X := by
  unfold raws
  rw [scan_local _ h hn X]
  have e : raw (l.take (wid l) ++ X) = num l := by
    unfold raw num
    rw [dec_local h hn X]
    split
    · rename_i e; simp [num, e] at hn
    · rfl
  rw [e]; rfl
theorem raws_ascii {c : UInt8} (hc : c.toNat < 128) (X : List UInt8) : raws (c :: X) = (c.toNat : Int) :: raws X := by
  have e := decN_one (X := X) hc
  rw [raws_cons (by simp)]
  have : wid (c :: X) = 1 := by simp [wid, e]
  rw [this]
  simp [raw, e]

theorem hexD_lt (n : Nat) : (hexD n).toNat < 128 := by
  unfold hexD
  by_cases h : n < 16
  · match n, h with
    | 0, _ | 1, _ | 2, _ | 3, _ | 4, _ | 5, _ | 6, _ | 7, _ | 8, _ | 9, _ | 10, _ | 11, _ | 12, _ | 13, _ | 14, _ | 15, _ => decide
    | n + 16, h => omega
  · rw [List.getD_eq_getElem?_getD, List.getElem?_eq_none (by simp [hexDs]; omega)]; decide
theorem hexV_hexD (n : Nat) (h : n < 16) : (hexV ((hexD n).toNat : Int)).toNat = n := by
  match n, h with
  | 0, _ | 1, _ | 2, _ | 3, _ | 4, _ | 5, _ | 6, _ | 7, _ | 8, _ | 9, _ | 10, _ | 11, _ | 12, _ | 13, _ | 14, _ | 15, _ => decide
  | n + 16, h => omega

theorem encode_ascii (c : UInt8) (h : c.toNat < 128) : Lib.encodeRune (c.toNat : Int) = [c] := by
  rw [Lib.encodeRune, Lib.encodeRuneZ_one (by omega) (by omega)]
  simp

theorem unesc_piece {l : List UInt8} (h : l ≠ []) (X : List UInt8) (out : List UInt8) (vl : Nat) :
    ∃ vl', (raws (piece l ++ X)).foldl ust ⟨out, false, 0, vl⟩ = (raws X).foldl ust ⟨out ++ l.take (wid l), false, 0, vl'⟩ := by
  have hb0 := bt_lt l 0
  by_cases c1 : num l = 34 ∨ num l = 92
  · rw [piece_quote c1]
    rcases kind l with ⟨a, hn, hr, hw⟩ | ⟨_, hn, _⟩ | ⟨_, hn, hr, _⟩
    · obtain ⟨c, r, rfl, h0⟩ := cons_of h
      have hc : c.toNat < 128 := by omega
      refine ⟨vl, ?_⟩
      rw [List.getD_cons_zero]
      show (raws (92 :: (c :: X))).foldl _ _ = _
      rw [raws_ascii (by decide), raws_ascii hc, List.foldl_cons, ust_b rfl rfl (by decide), List.foldl_cons, ust_e rfl rfl (by show (c.toNat : Int) ≠ 120; omega) (by omega), hw, encode_ascii c hc]
      rfl
    · omega
    · omega
  by_cases c2 : num l = 10
  · rw [piece_line c2]
    rcases kind l with ⟨a, hn, hr, hw⟩ | ⟨_, hn, _⟩ | ⟨_, hn, hr, _⟩
    · obtain ⟨c, r, rfl, h0⟩ := cons_of h
      have hc : c = 10 := (u8_eq (n := 10) (by omega)).2 (by omega)
      subst hc
      refine ⟨vl, ?_⟩
      show (raws (92 :: (110 :: X))).foldl _ _ = _
      rw [raws_ascii (by decide), raws_ascii (by decide), List.foldl_cons, ust_b rfl rfl (by decide), List.foldl_cons, ust_n rfl rfl (by decide), hw]
      rfl
    · omega
    · omega
  by_cases c3 : num l < 32 ∨ num l = 127
  · rw [piece_hid c1 c2 c3]
    have hw : wid l = 1 := by
      rcases kind l with ⟨a, hn, hr, hw⟩ | ⟨_, hn, _, hw⟩ | ⟨_, hn, hr, _⟩
      · exact hw
      · exact hw
      · omega
    obtain ⟨c, r, rfl, h0⟩ := cons_of h
    have e1 := hexV_hexD (bt (c :: r) 0 / 16) (by omega)
    have e2 := hexV_hexD (bt (c :: r) 0 % 16) (by omega)
    refine ⟨c.toNat, ?_⟩
    show (raws (92 :: (120 :: (hexD (bt (c :: r) 0 / 16) :: (hexD (bt (c :: r) 0 % 16) :: X))))).foldl _ _ = _
    rw [raws_ascii (by decide), raws_ascii (by decide), raws_ascii (hexD_lt _), raws_ascii (hexD_lt _), List.foldl_cons,
      ust_b rfl rfl (by decide), List.foldl_cons, ust_x rfl rfl (by decide), List.foldl_cons, ust_d2 rfl, List.foldl_cons, ust_d1 rfl, e1, e2, hw]
    have e3 : (0 * 16 + bt (c :: r) 0 / 16) * 16 + bt (c :: r) 0 % 16 = c.toNat := by rw [← h0]; omega
    rw [e3]
    simp
  · have hn0 : 0 ≤ num l := by have := num_bd l; omega
    rw [piece_as c1 c2 c3, raws_local h hn0, List.foldl_cons, ust_p rfl rfl (by omega), encode_num h hn0]
    exact ⟨vl, rfl⟩

theorem unesc_scan : ∀ (n : Nat) (l : List UInt8), l.length ≤ n → ∀ (out : List UInt8) (vl : Nat), ((raws (scan piece l)).foldl ust ⟨out, false, 0, vl⟩).out = out ++ l
  | 0, l, hl, out, vl => by
    have : l = [] := List.length_eq_zero_iff.1 (by omega)
    subst this; simp [scan_nil, raws]
  | n + 1, l, hl, out, vl => by
    by_cases h : l = []
    · subst h; simp [scan_nil, raws]
    · have hw := wid_pos l
      obtain ⟨vl', e⟩ := unesc_piece h (scan piece (l.drop (wid l))) out vl
      rw [scan_cons _ h, e, unesc_scan n (l.drop (wid l)) (by simp; omega)]
      simp

/-- T4: what was quoted comes back. -/
theorem unesc_quote (l : List UInt8) : unescL (scan piece l) = l := by
  have := unesc_scan l.length l (Nat.le_refl _) [] 0
  simpa [unescL, us0] using this
end Go.Proofs.Ytnaabapahblhmaa.T
