/-
  The document's answer to layer 1 (package bucketlineref1): Unquote is what package text's is.
-/
import Derived.Test.YtnaabapahblhmaaR5
namespace Go.Proofs.Ytnaabapahblhmaa
open Go.RowKit
attribute [local go_sem] ext_Bd ext_Bl ext_Bt toList_B add_B size_B get_Bt

theorem inner_cons {c : UInt8} {r : List UInt8} (h : ¬ c = 92) : innerL (c :: r) = (innerL r).map (c :: ·) := by
  rw [innerL_step (by simp), if_pos (show (c :: r).getD 0 0 ≠ 92 from h)]; rfl
theorem inner_all (X : List UInt8) : ∀ p : List UInt8, (∀ c ∈ p, ¬ c = 92) → innerL (p ++ X) = (innerL X).map (p ++ ·)
  | [], _ => by cases h : innerL X <;> simp [h]
  | c :: r, h => by
    rw [List.cons_append, inner_cons (h c (by simp)), inner_all X r (fun x hx => h x (by simp [hx])), Option.map_map]
    congr 1
theorem inner_esc {d : UInt8} {r : List UInt8} (h : d = 34 ∨ d = 92) : innerL (92 :: d :: r) = (innerL r).map (d :: ·) := by
  rw [innerL_step (by simp), if_neg (by simp), if_neg (by simp), if_pos (show (92 :: d :: r).getD 1 0 = 34 ∨ (92 :: d :: r).getD 1 0 = 92 from h)]; rfl
theorem inner_n {r : List UInt8} : innerL (92 :: 110 :: r) = (innerL r).map (10 :: ·) := by
  rw [innerL_step (by simp), if_neg (by simp), if_neg (by simp), if_neg (by simp), if_pos (by rfl)]; rfl
theorem inner_x {a b : UInt8} {r : List UInt8} (ha : 0 ≤ valV a) (hb : 0 ≤ valV b) : innerL (92 :: 120 :: a :: b :: r) = (innerL r).map (UInt8.ofNat (16 * valV a + valV b).toNat :: ·) := by
  rw [innerL_step (by simp), if_neg (by simp), if_neg (by simp), if_neg (by simp), if_neg (by simp), if_pos (by rfl), if_neg (by simp), if_neg (by simp; omega)]; rfl
theorem inner_piece {l : List UInt8} (h : l ≠ []) (X : List UInt8) : innerL (T.piece l ++ X) = (innerL X).map (l.take (T.wid l) ++ ·) := by
  have hb0 := T.bt_lt l 0
  by_cases c1 : T.num l = 34 ∨ T.num l = 92
  · rw [T.piece_quote c1]
    rcases T.kind l with ⟨a, hn, _, hw⟩ | ⟨_, hn, _⟩ | ⟨_, hn, hr, _⟩
    · obtain ⟨c, r, rfl, h0⟩ := T.cons_of h
      have hc : c = 34 ∨ c = 92 := by
        rcases c1 with c1 | c1
        · exact .inl ((T.u8_eq (n := 34) (by decide)).2 (by omega))
        · exact .inr ((T.u8_eq (n := 92) (by decide)).2 (by omega))
      rw [hw]
      exact inner_esc hc
    · omega
    · omega
  by_cases c2 : T.num l = 10
  · rw [T.piece_line c2]
    rcases T.kind l with ⟨a, hn, _, hw⟩ | ⟨_, hn, _⟩ | ⟨_, hn, hr, _⟩
    · obtain ⟨c, r, rfl, h0⟩ := T.cons_of h
      have hc : c = 10 := (T.u8_eq (n := 10) (by decide)).2 (by omega)
      subst hc
      rw [hw]
      exact inner_n
    · omega
    · omega
  by_cases c3 : T.num l < 32 ∨ T.num l = 127
  · rw [T.piece_hid c1 c2 c3]
    have hw : T.wid l = 1 := by
      rcases T.kind l with ⟨a, hn, hr, hw⟩ | ⟨_, hn, _, hw⟩ | ⟨_, hn, hr, _⟩
      · exact hw
      · exact hw
      · omega
    obtain ⟨c, r, rfl, h0⟩ := T.cons_of h
    have e1 := valV_hexD (T.bt (c :: r) 0 / 16) (by omega)
    have e2 := valV_hexD (T.bt (c :: r) 0 % 16) (by omega)
    have := inner_x (a := T.hexD (T.bt (c :: r) 0 / 16)) (b := T.hexD (T.bt (c :: r) 0 % 16)) (r := X) (by omega) (by omega)
    have e3 : (16 * ((T.bt (c :: r) 0 / 16 : Nat) : Int) + ((T.bt (c :: r) 0 % 16 : Nat) : Int)).toNat = c.toNat := by rw [← h0]; omega
    rw [e1, e2, e3] at this
    rw [hw]
    show innerL (92 :: 120 :: T.hexD (T.bt (c :: r) 0 / 16) :: T.hexD (T.bt (c :: r) 0 % 16) :: X) = _
    rw [this]
    simp
  · rw [T.piece_as c1 c2 c3]
    refine inner_all X _ ?_
    rcases T.kind l with ⟨a, hn, _, hw⟩ | ⟨a, hn, _⟩ | ⟨a, hn, hr, hw, hc⟩
    · obtain ⟨c, r, rfl, h0⟩ := T.cons_of h
      rw [hw]
      intro x hx
      simp at hx
      subst hx
      exact fun e => by subst e; apply c1; right; rw [hn, h0]; rfl
    · omega
    · intro x hx
      obtain ⟨i, hi, rfl⟩ := List.getElem_of_mem hx
      have hi2 : i < T.wid l := by simp at hi; omega
      have hi3 : i < l.length := by simp at hi; omega
      have := hc i hi2
      have e : T.bt l i = ((l.take (T.wid l))[i]).toNat := by simp [T.bt, List.getD_eq_getElem?_getD, hi3]
      rw [e] at this
      exact fun e => by rw [e] at this; simp at this
theorem inner_scan : ∀ (n : Nat) (l : List UInt8), l.length ≤ n → innerL (T.scan T.piece l) = some l
  | 0, l, hl => by
    have : l = [] := List.length_eq_zero_iff.1 (by omega)
    subst this; rfl
  | n + 1, l, hl => by
    by_cases h : l = []
    · subst h; rfl
    · have hw := T.wid_pos l
      rw [T.scan_cons _ h, inner_piece h, inner_scan n (l.drop (T.wid l)) (by simp; omega)]
      simp

theorem unq_iff {l t : List UInt8} (h : unqL l = some t) : T.quoteL t = l := by
  unfold unqL at h
  split at h
  · cases h
  · split at h
    · rename_i e; simp at h; subst h; exact e
    · cases h
theorem quote_first (t : List UInt8) : T.bt (T.quoteL t) 0 = 34 := by simp [T.bt, T.quoteL]
theorem quote_last (t : List UInt8) : T.bt (T.quoteL t) ((T.quoteL t).length - 1) = 34 := by
  have e : (T.quoteL t).length - 1 = (34 :: T.scan T.piece t).length := by simp [T.quoteL]
  rw [e]
  show T.bt ((34 :: T.scan T.piece t) ++ 34 :: []) (34 :: T.scan T.piece t).length = 34
  rw [T.bt_at_len]; rfl
theorem unq_not_first {l : List UInt8} (h : T.bt l 0 ≠ 34) : unqL l = none := by
  cases hu : unqL l with
  | none => rfl
  | some t => rw [← unq_iff hu, quote_first] at h; exact absurd rfl h
theorem unq_not_last {l : List UInt8} (h : T.bt l (l.length - 1) ≠ 34) : unqL l = none := by
  cases hu : unqL l with
  | none => rfl
  | some t => rw [← unq_iff hu, quote_last] at h; exact absurd rfl h
theorem mid_of_quote (t : List UInt8) : mid (T.quoteL t) = T.scan T.piece t := by simp [mid, T.quoteL]
theorem unq_inner_none {l : List UInt8} (h : innerL (mid l) = none) : unqL l = none := by
  cases hu : unqL l with
  | none => rfl
  | some t =>
    have e := unq_iff hu
    rw [← e, mid_of_quote, inner_scan t.length t (Nat.le_refl _)] at h
    cases h
theorem unq_inner_some {l t : List UInt8} (h : innerL (mid l) = some t) (hq : ¬ T.quoteL t = l) : unqL l = none := by
  cases hu : unqL l with
  | none => rfl
  | some x =>
    have e := unq_iff hu
    have h2 := h
    rw [← e, mid_of_quote, inner_scan x.length x (Nat.le_refl _)] at h2
    simp at h2
    subst h2
    exact absurd e hq
theorem unq_inner_ok {l t : List UInt8} (hq : T.quoteL t = l) : unqL l = some t := by rw [← hq]; exact unq_quote t
theorem inner_len {l t : List UInt8} (h : innerL l = some t) : t.length ≤ l.length := by
  have key : ∀ (n : Nat) (l t : List UInt8), l.length ≤ n → innerL l = some t → t.length ≤ l.length := by
    intro n
    induction n with
    | zero =>
      intro l t hl h
      have : l = [] := List.length_eq_zero_iff.1 (by omega)
      subst this
      simp [innerL, innerF] at h; subst h; simp
    | succ n ih =>
      intro l t hl h
      by_cases hn : l = []
      · subst hn; simp [innerL, innerF] at h; subst h; simp
      · have hp := T.len_pos hn
        have go : ∀ (k : Nat) (c : UInt8), 1 ≤ k → k ≤ l.length → (innerL (l.drop k)).map (c :: ·) = some t → t.length ≤ l.length := by
          intro k c hk hkl hh
          rw [Option.map_eq_some_iff] at hh
          obtain ⟨x, hx, rfl⟩ := hh
          have := ih (l.drop k) x (by simp; omega) hx
          simp at this ⊢; omega
        rw [innerL_step hn] at h
        split at h
        · exact go 1 _ (by omega) (by omega) h
        · split at h
          · cases h
          · split at h
            · exact go 2 _ (by omega) (by omega) h
            · split at h
              · exact go 2 _ (by omega) (by omega) h
              · split at h
                · split at h
                  · cases h
                  · split at h
                    · cases h
                    · exact go 4 _ (by omega) (by omega) h
                · cases h
  exact key l.length l t (Nat.le_refl _) h

theorem innRes_none : innRes none = .tuple #[.string (B []), .bool false] := rfl
theorem innRes_some (t : List UInt8) : innRes (some t) = .tuple #[.string (B t), .bool true] := rfl

set_option maxHeartbeats 1000000 in
theorem refUnquote_l (m : List UInt8) (w : World) (hs : m.length ≤ 100000) :
    Calls Try.prog 18 #[.string (B m)] w fun e w' => e = .returned (unqRes (unqL m)) ∧ Below w.heap.size w w' := by
  have hml := mid_len m
  by_cases h2 : m.length < 2
  · have HS := Lib.hid (unq_short h2)
    go_enter Try.func18, Try.ntmps18
    go_wp2
    go_ret2
    rw [HS.out, unqRes_none]
    exact ⟨rfl, Below.refl _ _⟩
  have hb0 := T.bt_lt m 0
  have hb1 := T.bt_lt m (m.length - 1)
  by_cases h34 : T.bt m 0 = 34
  · have h34b : ((T.bt m 0 : Int) != 34) = false := by simp; omega
    have H0 := Lib.hid h34; clear h34
    by_cases l34 : T.bt m (m.length - 1) = 34
    · have l34b : ((T.bt m (m.length - 1) : Int) != 34) = false := by simp; omega
      have H1 := Lib.hid l34; clear l34
      have HX := Lib.hid (show (B m).extract 1 (m.length - 1) = B (mid m) by rw [← size_B m, ext_mid])
      have HIN := Lib.hid (fun h => unq_inner_none (l := m) h)
      have HIS := Lib.hid (fun t h hq => unq_inner_some (l := m) (t := t) h hq)
      have HIL := Lib.hid (fun t h => inner_len (l := mid m) (t := t) h)
      go_enter Try.func18, Try.ntmps18
      go_wp2_with fail
      rw [HX.out]
      refine (inner_l (mid m) _ (by omega)).mono ?_
      rintro e w1 ⟨rfl, hbe1⟩
      cases hi : innerL (mid m) with
      | none =>
        have HU := Lib.hid (HIN.out hi)
        clear hi
        rw [innRes_none]
        go_wp2
        go_ret2
        rw [HU.out, unqRes_none]
        exact ⟨rfl, hbe1⟩
      | some t =>
        have htl := HIL.out t hi
        have HIS2 := Lib.hid (fun hq => HIS.out t hi hq)
        clear hi
        rw [innRes_some]
        go_wp2_with fail
        refine (refQuote_l t _ (by omega)).mono ?_
        rintro e w2 ⟨rfl, hq2⟩
        have hbe2 := below_quiet hbe1 hq2
        by_cases hq : T.quoteL t = m
        · have hqb : (T.quoteL t == m) = true := by simpa using hq
          have HU := Lib.hid (unq_inner_ok hq)
          clear hq hq2
          go_wp2
          go_ret2
          rw [HU.out, unqRes_some]
          exact ⟨rfl, hbe2⟩
        · have hqb : (T.quoteL t == m) = false := by simpa using hq
          have HU := Lib.hid (HIS2.out hq)
          clear hq hq2
          go_wp2
          go_ret2
          rw [HU.out, unqRes_none]
          exact ⟨rfl, hbe2⟩
    · have l34b : ((T.bt m (m.length - 1) : Int) != 34) = true := by simp; omega
      have HS := Lib.hid (unq_not_last l34)
      clear l34
      go_enter Try.func18, Try.ntmps18
      go_wp2
      go_ret2
      rw [HS.out, unqRes_none]
      exact ⟨rfl, Below.refl _ _⟩
  · have h34b : ((T.bt m 0 : Int) != 34) = true := by simp; omega
    have HS := Lib.hid (unq_not_first h34)
    clear h34
    go_enter Try.func18, Try.ntmps18
    go_wp2
    go_ret2
    rw [HS.out, unqRes_none]
    exact ⟨rfl, Below.refl _ _⟩
end Go.Proofs.Ytnaabapahblhmaa
