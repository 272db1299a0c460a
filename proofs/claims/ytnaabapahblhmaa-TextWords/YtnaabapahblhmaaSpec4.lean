/-
  Plain functions of texts: what unescape makes of a text. No program in this text.
-/
import Derived.Test.YtnaabapahblhmaaSpec3
namespace Go.Proofs.Ytnaabapahblhmaa.T

def hexV (r : Int) : Int := if 48 ≤ r ∧ r ≤ 57 then r - 48 else if 97 ≤ r ∧ r ≤ 102 then r - 97 + 10 else 0
theorem hexV_bd (r : Int) : 0 ≤ hexV r ∧ hexV r ≤ 15 := by unfold hexV; repeat' split; all_goals omega

/-- The state of unescape: what it has made, whether a sign is ahead, how many digits are to come, their value so far. -/
structure US where
  out : List UInt8
  esc : Bool
  dg : Nat
  vl : Nat

def ust (σ : US) (r : Int) : US :=
  if 0 < σ.dg then
    if σ.dg = 1 then ⟨σ.out ++ [UInt8.ofNat (σ.vl * 16 + (hexV r).toNat)], σ.esc, 0, σ.vl * 16 + (hexV r).toNat⟩
    else ⟨σ.out, σ.esc, σ.dg - 1, σ.vl * 16 + (hexV r).toNat⟩
  else if σ.esc = true ∧ r = 120 then ⟨σ.out, false, 2, 0⟩
  else if σ.esc = true ∧ r = 110 then ⟨σ.out ++ [10], false, σ.dg, σ.vl⟩
  else if σ.esc = false ∧ r = 92 then ⟨σ.out, true, σ.dg, σ.vl⟩
  else ⟨σ.out ++ Lib.encodeRune r, false, σ.dg, σ.vl⟩

def us0 : US := ⟨[], false, 0, 0⟩
def unescL (l : List UInt8) : List UInt8 := ((raws l).foldl ust us0).out

structure URel (l : List UInt8) (pos : Nat) (σ : US) : Prop where
  cut : (raws l).foldl ust us0 = (raws (l.drop pos)).foldl ust σ
  le : σ.out.length ≤ 4 * pos
  d2 : σ.dg ≤ 2
  v2 : σ.dg = 2 → σ.vl = 0
  v1 : σ.dg = 1 → σ.vl ≤ 15
  v0 : σ.vl ≤ 255

theorem encode_len (r : Int) : (Lib.encodeRune r).length ≤ 4 := by
  have := (Lib.encodeRuneZ_length r).2
  simp [Lib.encodeRune]; omega

theorem URel.start (l : List UInt8) : URel l 0 us0 := ⟨by simp, by simp [us0], by simp [us0], by simp [us0], by simp [us0], by simp [us0]⟩
theorem URel.go {l : List UInt8} {pos : Nat} {σ : US} (h : URel l pos σ) (hne : l.drop pos ≠ []) : URel l (pos + wid (l.drop pos)) (ust σ (raw (l.drop pos))) := by
  have hw := wid_pos (l.drop pos)
  have hx := hexV_bd (raw (l.drop pos))
  have he := encode_len (raw (l.drop pos))
  obtain ⟨hc, hl, h2, hv2, hv1, hv0⟩ := h
  refine ⟨by rw [hc, raws_cons hne, List.drop_drop, List.foldl_cons], ?_, ?_, ?_, ?_, ?_⟩
  all_goals
    unfold ust
    repeat' split
    all_goals (first | (simp; done) | (simp; omega) | omega | (intro hh; simp at hh; done) | (intro hh; simp at hh ⊢; omega) | (simp at *; omega))
theorem URel.done {l : List UInt8} {pos : Nat} {σ : US} (h : URel l pos σ) (hl : l.length ≤ pos) : unescL l = σ.out := by
  unfold unescL
  rw [h.cut, List.drop_of_length_le hl]; simp [raws, scan_nil]
theorem unescL_len (l : List UInt8) : (unescL l).length ≤ 4 * l.length := by
  have key : ∀ n (l' : List UInt8), l'.length ≤ n → ∀ σ, ((raws l').foldl ust σ).out.length ≤ σ.out.length + 4 * l'.length := by
    intro n
    induction n with
    | zero => intro l' h σ; have : l' = [] := List.length_eq_zero_iff.1 (by omega); subst this; simp [raws, scan_nil]
    | succ n ih =>
      intro l' h σ
      by_cases hne : l' = []
      · subst hne; simp [raws, scan_nil]
      · have hw := wid_pos l'
        have hw2 := wid_le hne
        rw [raws_cons hne, List.foldl_cons]
        have := ih (l'.drop (wid l')) (by simp; omega) (ust σ (raw l'))
        have he := encode_len (raw l')
        have h4 : (ust σ (raw l')).out.length ≤ σ.out.length + 4 := by
          unfold ust
          repeat' split
          all_goals (simp; try omega)
        simp at this; omega
  have := key l.length l (Nat.le_refl _) us0
  simp only [unescL]
  simpa [us0] using this

theorem ust_d1 {σ : US} {r : Int} (h : σ.dg = 1) : ust σ r = ⟨σ.out ++ [UInt8.ofNat (σ.vl * 16 + (hexV r).toNat)], σ.esc, 0, σ.vl * 16 + (hexV r).toNat⟩ := by simp [ust, h]
theorem ust_d2 {σ : US} {r : Int} (h : σ.dg = 2) : ust σ r = ⟨σ.out, σ.esc, 1, σ.vl * 16 + (hexV r).toNat⟩ := by simp [ust, h]
theorem ust_x {σ : US} {r : Int} (h : σ.dg = 0) (he : σ.esc = true) (hr : r = 120) : ust σ r = ⟨σ.out, false, 2, 0⟩ := by simp [ust, h, he, hr]
theorem ust_n {σ : US} {r : Int} (h : σ.dg = 0) (he : σ.esc = true) (hr : r = 110) : ust σ r = ⟨σ.out ++ [10], false, 0, σ.vl⟩ := by simp [ust, h, he, hr]
theorem ust_e {σ : US} {r : Int} (h : σ.dg = 0) (he : σ.esc = true) (hr : r ≠ 120) (hr2 : r ≠ 110) : ust σ r = ⟨σ.out ++ Lib.encodeRune r, false, 0, σ.vl⟩ := by simp [ust, h, he, hr, hr2]
theorem ust_b {σ : US} {r : Int} (h : σ.dg = 0) (he : σ.esc = false) (hr : r = 92) : ust σ r = ⟨σ.out, true, 0, σ.vl⟩ := by simp [ust, h, he, hr]
theorem ust_p {σ : US} {r : Int} (h : σ.dg = 0) (he : σ.esc = false) (hr : r ≠ 92) : ust σ r = ⟨σ.out ++ Lib.encodeRune r, false, 0, σ.vl⟩ := by simp [ust, h, he, hr]
end Go.Proofs.Ytnaabapahblhmaa.T
