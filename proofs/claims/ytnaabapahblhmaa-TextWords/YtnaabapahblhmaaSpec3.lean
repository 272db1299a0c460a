/-
  Plain functions of texts: what Quote tells of a text. No program in this text.
-/
import Derived.Test.YtnaabapahblhmaaSpec2
namespace Go.Proofs.Ytnaabapahblhmaa.T

def hexDs : List UInt8 := [48, 49, 50, 51, 52, 53, 54, 55, 56, 57, 97, 98, 99, 100, 101, 102]
def hexD (n : Nat) : UInt8 := hexDs.getD n 0

def piece (m : List UInt8) : List UInt8 :=
  if num m = 34 ∨ num m = 92 then [92, m.getD 0 0]
  else if num m = 10 then [92, 110]
  else if num m < 32 ∨ num m = 127 then [92, 120, hexD (bt m 0 / 16), hexD (bt m 0 % 16)]
  else m.take (wid m)
def quoteL (l : List UInt8) : List UInt8 := 34 :: (scan piece l ++ [34])

theorem piece_len {m : List UInt8} : (piece m).length ≤ 4 := by
  unfold piece
  split
  · simp
  · split
    · simp
    · split
      · simp
      · have := wid_le4 m
        simp; omega

structure QRel (l : List UInt8) (pos : Nat) (acc : List UInt8) : Prop where
  cut : quoteL l = acc ++ scan piece (l.drop pos) ++ [34]
  le : acc.length ≤ 4 * pos + 1
theorem QRel.start (l : List UInt8) : QRel l 0 [34] := ⟨by simp [quoteL], by simp⟩
theorem QRel.go {l : List UInt8} {pos : Nat} {acc p : List UInt8} (h : QRel l pos acc) (hne : l.drop pos ≠ []) (hp : piece (l.drop pos) = p) : QRel l (pos + wid (l.drop pos)) (acc ++ p) := by
  subst hp
  refine ⟨?_, by have := wid_pos (l.drop pos); have := h.le; have := piece_len (m := l.drop pos); simp; omega⟩
  rw [h.cut, scan_cons _ hne, List.drop_drop]; simp
theorem QRel.done {l : List UInt8} {pos : Nat} {acc : List UInt8} (h : QRel l pos acc) (hl : l.length ≤ pos) : quoteL l = acc ++ [34] := by
  rw [h.cut, List.drop_of_length_le hl]; simp [scan_nil]
theorem quoteL_len (l : List UInt8) : (quoteL l).length ≤ 4 * l.length + 2 := by
  have : ∀ f (l : List UInt8), (scanF piece f l).length ≤ 4 * l.length := by
    intro f
    induction f with
    | zero => intro l; simp [scanF]
    | succ f ih =>
      intro l
      simp only [scanF]
      split
      · simp
      · rename_i hne
        have h1 := ih (l.drop (wid l))
        have h2 := wid_pos l
        have h3 := wid_le hne
        have h4 := piece_len (m := l)
        simp at h1 ⊢; omega
  have := this l.length l
  simp [quoteL, scan]; omega

theorem piece_quote {m : List UInt8} (h : num m = 34 ∨ num m = 92) : piece m = [92, m.getD 0 0] := by simp only [piece, if_pos h]
theorem piece_line {m : List UInt8} (h : num m = 10) : piece m = [92, 110] := by simp [piece, h]
theorem piece_hid {m : List UInt8} (h1 : ¬ (num m = 34 ∨ num m = 92)) (h2 : ¬ num m = 10) (h3 : num m < 32 ∨ num m = 127) : piece m = [92, 120, hexD (bt m 0 / 16), hexD (bt m 0 % 16)] := by
  simp only [piece, if_neg h1, if_neg h2, if_pos h3]
theorem piece_as {m : List UInt8} (h1 : ¬ (num m = 34 ∨ num m = 92)) (h2 : ¬ num m = 10) (h3 : ¬ (num m < 32 ∨ num m = 127)) : piece m = m.take (wid m) := by
  simp only [piece, if_neg h1, if_neg h2, if_neg h3]
end Go.Proofs.Ytnaabapahblhmaa.T
