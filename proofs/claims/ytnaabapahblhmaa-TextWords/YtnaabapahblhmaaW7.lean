/-
  Walks of Unquote, firstQuoted, firstWord of package text.
-/
import Derived.Test.YtnaabapahblhmaaW6
namespace Go.Proofs.Ytnaabapahblhmaa
open Go.RowKit

/-! ### texts as lists: rules for the walk -/
theorem ext_Bd (m : List UInt8) (k : Nat) : (B m).extract k (B m).size = B (m.drop k) := by
  rw [ext_B, L_B, List.take_of_length_le (by simp [size_B])]
theorem ext_Bt (m : List UInt8) (k : Nat) : (B m).extract 0 k = B (m.take k) := by
  rw [ext_B, L_B]; simp
theorem toList_B (m : List UInt8) : (B m).toList = m := by rw [Lib.toList_data]; exact L_B m
theorem B_nil : (⟨#[]⟩ : ByteArray) = B [] := rfl
attribute [local go_sem] ext_Bd ext_Bt toList_B

theorem Quote_l (m : List UInt8) (w : World) (hs : m.length ≤ 1000000) :
    Calls Try.prog 19 #[.string (B m)] w fun e w' => e = .returned (.string (B (T.quoteL m))) ∧ Below w.heap.size w w' := by
  have := Quote_any (B m) w (by rw [size_B]; exact hs)
  rwa [L_B] at this
theorem unescape_l (m : List UInt8) (w : World) (hs : m.length ≤ 1000000) :
    Calls Try.prog 30 #[.string (B m)] w fun e w' => e = .returned (.string (B (T.unescL m))) ∧ Below w.heap.size w w' := by
  have := unescape_any (B m) w (by rw [size_B]; exact hs)
  rwa [L_B] at this
theorem gapLength_l (m : List UInt8) (w : World) (hs : m.length ≤ 1000000) :
    Calls Try.prog 34 #[.string (B m)] w fun e w' => e = .returned (.int .i64 (T.gap m)) ∧ Below w.heap.size w w' := by
  have := gapLength_any (B m) w (by rw [size_B]; unfold maxLen; omega)
  rwa [L_B] at this
theorem quotedLength_l (m : List UInt8) (w : World) (hs : m.length ≤ 1000000) (h1 : 0 < m.length) (hq : T.raw m = 34) :
    Calls Try.prog 48 #[.string (B m)] w fun e w' => e = .returned (.tuple #[.int .i64 ((qTot m).getD 0), .bool (qTot m).isSome]) ∧ Below w.heap.size w w' := by
  have := quotedLength_any (B m) w (by rw [size_B]; unfold maxLen; omega) (by rw [size_B]; exact h1) (by unfold rawAt; rw [show (B m).data.toList = m from L_B m]; exact hq)
  rwa [L_B] at this
theorem firstPlain_l (m : List UInt8) (w : World) (hs : m.length ≤ 1000000) :
    Calls Try.prog 46 #[.string (B m)] w fun e w' => e = .returned (fpRes m) ∧ Below w.heap.size w w' := by
  have := firstPlain_any (B m) w (by rw [size_B]; exact hs)
  rwa [L_B] at this

def mid (l : List UInt8) : List UInt8 := (l.drop 1).take (l.length - 2)
def unqL (l : List UInt8) : Option (List UInt8) := if l.length < 2 then none else if T.quoteL (T.unescL (mid l)) = l then some (T.unescL (mid l)) else none
def unqRes (o : Option (List UInt8)) : Value :=
  match o with
  | none => .tuple #[.string (B []), .int .i64 2]
  | some t => .tuple #[.string (B t), .int .i64 0]
theorem unq_short {l : List UInt8} (h : l.length < 2) : unqL l = none := by simp only [unqL, if_pos h]
theorem unq_bad {l : List UInt8} (h : ¬ l.length < 2) (hq : ¬ T.quoteL (T.unescL (mid l)) = l) : unqL l = none := by simp only [unqL, if_neg h, if_neg hq]
theorem unq_ok {l : List UInt8} (h : ¬ l.length < 2) (hq : T.quoteL (T.unescL (mid l)) = l) : unqL l = some (T.unescL (mid l)) := by simp only [unqL, if_neg h, if_pos hq]
theorem unqRes_none : unqRes none = .tuple #[.string (B []), .int .i64 2] := rfl
theorem unqRes_some (t : List UInt8) : unqRes (some t) = .tuple #[.string (B t), .int .i64 0] := rfl
theorem ext_mid (m : List UInt8) : (B m).extract 1 ((B m).size - 1) = B (mid m) := by
  rw [ext_B, L_B, size_B]; rfl
theorem mid_len (l : List UInt8) : (mid l).length ≤ l.length := by simp [mid]; omega

set_option maxHeartbeats 400000 in
theorem Unquote_l (m : List UInt8) (w : World) (hs : m.length ≤ 100000) :
    Calls Try.prog 17 #[.string (B m)] w fun e w' => e = .returned (unqRes (unqL m)) ∧ Below w.heap.size w w' := by
  have hml := mid_len m
  have hul := T.unescL_len (mid m)
  have hsz : (B m).size ≤ 100000 := by rw [size_B]; exact hs
  by_cases h2 : m.length < 2
  · have HS := Lib.hid (unq_short h2)
    have h3 : (B m).size < 2 := by rw [size_B]; exact h2
    go_enter Try.func17, Try.ntmps17
    go_wp2
    go_ret2
    rw [HS.out, unqRes_none]
    exact ⟨rfl, Below.refl _ _⟩
  · have HX := Lib.hid (ext_mid m)
    have h3 : ¬ (B m).size < 2 := by rw [size_B]; exact h2
    have HOK := Lib.hid (fun h => unq_ok (l := m) h2 h)
    have HBAD := Lib.hid (fun h => unq_bad (l := m) h2 h)
    go_enter Try.func17, Try.ntmps17
    go_wp2_with fail
    rw [HX.out]
    refine (unescape_l (mid m) _ (by omega)).mono ?_
    rintro e w1 ⟨rfl, hb1⟩
    generalize T.unescL (mid m) = o at *
    go_wp2_with fail
    refine (Quote_l o _ (by omega)).mono ?_
    rintro e w2 ⟨rfl, hb2⟩
    have hb : Below w.heap.size w w2 := hb1.trans (hb2.mono hb1.size)
    by_cases hq : T.quoteL o = m
    · have hqb : (T.quoteL o == m) = true := by simpa using hq
      have HU := Lib.hid (HOK.out hq)
      clear hq
      go_wp2
      go_ret2
      rw [HU.out, unqRes_some]
      exact ⟨rfl, hb⟩
    · have hqb : (T.quoteL o == m) = false := by simpa using hq
      have HU := Lib.hid (HBAD.out hq)
      clear hq
      go_wp2
      go_ret2
      rw [HU.out, unqRes_none]
      exact ⟨rfl, hb⟩

/-! ### the first word -/
def fqL (l : List UInt8) : Option (List UInt8 × Nat) :=
  match qTot l with
  | none => none
  | some n => if n < l.length ∧ T.gapB (l.getD n 0) = false then none else (unqL (l.take n)).map fun t => (t, n)
def fwL (l : List UInt8) : Option (List UInt8 × Nat) := if l.getD 0 0 = 34 then fqL l else (T.plainLen l).map fun n => (l.take n, n)
def wRes (o : Option (List UInt8 × Nat)) : Value :=
  match o with
  | none => .tuple #[.string (B []), .int .i64 0, .int .i64 2]
  | some (t, n) => .tuple #[.string (B t), .int .i64 n, .int .i64 0]
theorem wRes_none : wRes none = .tuple #[.string (B []), .int .i64 0, .int .i64 2] := rfl
theorem wRes_some (t : List UInt8) (n : Nat) : wRes (some (t, n)) = .tuple #[.string (B t), .int .i64 n, .int .i64 0] := rfl
theorem wRes_form (o : Option (List UInt8 × Nat)) : ∃ a b c, wRes o = .tuple #[a, b, c] := by
  cases o with
  | none => exact ⟨_, _, _, rfl⟩
  | some p => exact ⟨_, _, _, rfl⟩
theorem wRes_plain (l : List UInt8) : fpRes l = wRes ((T.plainLen l).map fun n => (l.take n, n)) := by
  unfold fpRes
  split <;> rename_i h <;> rw [h] <;> rfl
theorem fq_none {l : List UInt8} (h : qTot l = none) : fqL l = none := by simp [fqL, h]
theorem fq_gap {l : List UInt8} {n : Nat} (h : qTot l = some n) (h1 : n < l.length) (h2 : T.gapB (l.getD n 0) = false) : fqL l = none := by
  simp only [fqL, h]; rw [if_pos ⟨h1, h2⟩]
theorem fq_go {l : List UInt8} {n : Nat} (h : qTot l = some n) (h1 : ¬ (n < l.length ∧ T.gapB (l.getD n 0) = false)) : fqL l = (unqL (l.take n)).map fun t => (t, n) := by
  simp only [fqL, h]; rw [if_neg h1]

theorem get_B (m : List UInt8) (n : Nat) (h : n < (B m).size) : (B m)[n]'h = m.getD n 0 := by
  have h1 : n < m.length := by rw [size_B] at h; exact h
  show m.toArray[n] = _
  simp [List.getD_eq_getElem?_getD, h1]
theorem gapB_int (c : UInt8) : ((c.toNat : Int) == 32 || (c.toNat : Int) == 9) = T.gapB c := by
  rw [Bool.eq_iff_iff]
  simp only [T.gapB, Bool.or_eq_true, beq_iff_eq]
  constructor
  · rintro (h | h)
    · exact .inl ((T.u8_eq (n := 32) (by omega)).2 (by omega))
    · exact .inr ((T.u8_eq (n := 9) (by omega)).2 (by omega))
  · rintro (rfl | rfl)
    · exact .inl rfl
    · exact .inr rfl

set_option maxHeartbeats 400000 in
theorem firstQuoted_l (m : List UInt8) (w : World) (hs : m.length ≤ 100000) (h1 : 0 < m.length) (hq : T.raw m = 34) :
    Calls Try.prog 45 #[.string (B m)] w fun e w' => e = .returned (wRes (fqL m)) ∧ Below w.heap.size w w' := by
  have hsz : (B m).size ≤ 100000 := by rw [size_B]; exact hs
  cases hn : qTot m with
  | none =>
    have HS := Lib.hid (fq_none hn)
    have HN := Lib.hid hn; clear hn
    go_enter Try.func45, Try.ntmps45
    go_wp2_with fail
    refine (quotedLength_l m w (by omega) h1 hq).mono ?_
    rintro e w1 ⟨rfl, hb1⟩
    rw [HN.out]
    go_wp2
    go_ret3
    rw [HS.out, wRes_none]
    exact ⟨rfl, hb1⟩
  | some n =>
    have hnl := qTot_le hn
    have hnl2 : n ≤ (B m).size := by rw [size_B]; exact hnl.2
    by_cases hlt : n < m.length
    · have hlt2 : n < (B m).size := by rw [size_B]; exact hlt
      have hb8 := (B m)[n].toNat_lt
      cases hg : T.gapB (m.getD n 0)
      · have HS := Lib.hid (fq_gap hn hlt hg)
        have HN := Lib.hid hn; clear hn
        have hg2 : (((B m)[n].toNat : Int) == 32 || ((B m)[n].toNat : Int) == 9) = false := by rw [gapB_int, get_B]; exact hg
        go_enter Try.func45, Try.ntmps45
        go_wp2_with (first
          | (go_at_call 48; refine (quotedLength_l m w (by omega) h1 hq).mono ?_; rintro e w1 ⟨rfl, hb1⟩; rw [HN.out])
          | (go_at_call 44; refine (isGap_any _ _).mono ?_; rintro e w' ⟨rfl, rfl⟩))
        go_ret3
        rw [HS.out, wRes_none]
        exact ⟨rfl, hb1⟩
      · have HS := Lib.hid (fq_go hn (by rw [hg]; simp))
        have HN := Lib.hid hn; clear hn
        have hg2 : (((B m)[n].toNat : Int) == 32 || ((B m)[n].toNat : Int) == 9) = true := by rw [gapB_int, get_B]; exact hg
        cases hu : unqL (m.take n) with
        | none =>
          have HU := Lib.hid hu; clear hu
          go_enter Try.func45, Try.ntmps45
          go_wp2_with (first
            | (go_at_call 48; refine (quotedLength_l m w (by omega) h1 hq).mono ?_; rintro e w1 ⟨rfl, hb1⟩; rw [HN.out])
            | (go_at_call 44; refine (isGap_any _ _).mono ?_; rintro e w' ⟨rfl, rfl⟩)
            | (go_at_call 17; refine (Unquote_l (m.take n) _ (by simp; omega)).mono ?_; rintro e w2 ⟨rfl, hb2⟩; rw [HU.out, unqRes_none]))
          go_ret3
          rw [HS.out, HU.out, Option.map_none, wRes_none]
          exact ⟨rfl, hb1.trans (hb2.mono hb1.size)⟩
        | some t =>
          have HU := Lib.hid hu; clear hu
          go_enter Try.func45, Try.ntmps45
          go_wp2_with (first
            | (go_at_call 48; refine (quotedLength_l m w (by omega) h1 hq).mono ?_; rintro e w1 ⟨rfl, hb1⟩; rw [HN.out])
            | (go_at_call 44; refine (isGap_any _ _).mono ?_; rintro e w' ⟨rfl, rfl⟩)
            | (go_at_call 17; refine (Unquote_l (m.take n) _ (by simp; omega)).mono ?_; rintro e w2 ⟨rfl, hb2⟩; rw [HU.out, unqRes_some]))
          go_ret3
          rw [HS.out, HU.out, Option.map_some, wRes_some]
          exact ⟨rfl, hb1.trans (hb2.mono hb1.size)⟩
    · have hlt2 : ¬ n < (B m).size := by rw [size_B]; exact hlt
      have HS := Lib.hid (fq_go hn (fun h => hlt h.1))
      have HN := Lib.hid hn; clear hn
      cases hu : unqL (m.take n) with
      | none =>
        have HU := Lib.hid hu; clear hu
        go_enter Try.func45, Try.ntmps45
        go_wp2_with (first
          | (go_at_call 48; refine (quotedLength_l m w (by omega) h1 hq).mono ?_; rintro e w1 ⟨rfl, hb1⟩; rw [HN.out])
          | (go_at_call 44; refine (isGap_any _ _).mono ?_; rintro e w' ⟨rfl, rfl⟩)
          | (go_at_call 17; refine (Unquote_l (m.take n) _ (by simp; omega)).mono ?_; rintro e w2 ⟨rfl, hb2⟩; rw [HU.out, unqRes_none]))
        go_ret3
        rw [HS.out, HU.out, Option.map_none, wRes_none]
        exact ⟨rfl, hb1.trans (hb2.mono hb1.size)⟩
      | some t =>
        have HU := Lib.hid hu; clear hu
        go_enter Try.func45, Try.ntmps45
        go_wp2_with (first
          | (go_at_call 48; refine (quotedLength_l m w (by omega) h1 hq).mono ?_; rintro e w1 ⟨rfl, hb1⟩; rw [HN.out])
          | (go_at_call 44; refine (isGap_any _ _).mono ?_; rintro e w' ⟨rfl, rfl⟩)
          | (go_at_call 17; refine (Unquote_l (m.take n) _ (by simp; omega)).mono ?_; rintro e w2 ⟨rfl, hb2⟩; rw [HU.out, unqRes_some]))
        go_ret3
        rw [HS.out, HU.out, Option.map_some, wRes_some]
        exact ⟨rfl, hb1.trans (hb2.mono hb1.size)⟩

set_option maxHeartbeats 400000 in
theorem firstWord_l (m : List UInt8) (w : World) (hs : m.length ≤ 100000) (h1 : 0 < m.length) :
    Calls Try.prog 35 #[.string (B m)] w fun e w' => e = .returned (wRes (fwL m)) ∧ Below w.heap.size w w' := by
  have hlt2 : 0 < (B m).size := by rw [size_B]; exact h1
  by_cases hq : m.getD 0 0 = 34
  · have hf : fwL m = fqL m := by simp only [fwL, if_pos hq]
    have hr : T.raw m = 34 := by
      have hb : T.bt m 0 = 34 := by unfold T.bt; rw [hq]; rfl
      rcases T.kind m with ⟨a, _, b, d⟩ | ⟨a, _, b, d⟩ | ⟨a, _, b, d, _⟩ <;> omega
    have hz : (((B m)[0].toNat : Int) == 34) = true := by rw [get_B, hq]; rfl
    rw [hf]
    have HQ := Lib.hid hq; clear hq
    have HR := Lib.hid hr; clear hr hf
    obtain ⟨a, b, c, hw⟩ := wRes_form (fqL m)
    have HW := Lib.hid hw; clear hw
    go_enter Try.func35, Try.ntmps35
    go_wp2_with (go_at_call 45; refine (firstQuoted_l m w hs h1 HR.out).mono ?_; rintro e w1 ⟨rfl, hb1⟩; rw [HW.out])
    go_ret3
    rw [HW.out]
    exact ⟨rfl, hb1⟩
  · have hf : fwL m = (T.plainLen m).map fun n => (m.take n, n) := by simp only [fwL, if_neg hq]
    have hz : (((B m)[0].toNat : Int) == 34) = false := by
      rw [get_B, beq_eq_false_iff_ne]
      intro e
      exact hq ((T.u8_eq (n := 34) (by omega)).2 (by omega))
    rw [hf, ← wRes_plain]
    have HQ := Lib.hid hq; clear hq hf
    obtain ⟨a, b, c, hw⟩ : ∃ a b c, fpRes m = .tuple #[a, b, c] := by rw [wRes_plain]; exact wRes_form _
    have HW := Lib.hid hw; clear hw
    go_enter Try.func35, Try.ntmps35
    go_wp2_with (go_at_call 46; refine (firstPlain_l m w (by omega)).mono ?_; rintro e w1 ⟨rfl, hb1⟩; rw [HW.out])
    go_ret3
    rw [HW.out]
    exact ⟨rfl, hb1⟩
end Go.Proofs.Ytnaabapahblhmaa
