/-
  More of frames over lists of bytes: how many payloads a scan has, and how many bytes.
-/
import Derived.Test.YtmfhipjceeijmaaFrameSpec
namespace Go.Proofs.Ytmfhipjceeijmaa.F

theorem scanF_count : ∀ (f : Nat) (s : List UInt8), (scanF f s).1.length ≤ s.length ∧ (scanF f s).2 ≤ s.length
  | 0, s => by simp [scanF]
  | f + 1, s => by
    rcases take_cases s with ⟨e, h, _⟩ | ⟨p, r, h⟩
    · rw [scanF_bad h]; simp
    · have hi := take_inv h
      have hl : s.length = p.length + 8 + r.length := by rw [hi.1, List.length_append, frame_len]
      have := scanF_count f r
      rw [scanF_ok h]
      simp only [List.length_cons]
      omega
theorem scan_count (s : List UInt8) : (scan s).1.length ≤ s.length := (scanF_count _ s).1
theorem scan_le (s : List UInt8) : (scan s).2 ≤ s.length := (scanF_count _ s).2
end Go.Proofs.Ytmfhipjceeijmaa.F
