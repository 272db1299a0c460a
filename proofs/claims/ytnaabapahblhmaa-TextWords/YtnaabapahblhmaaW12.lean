/-
  A list of texts that came in; the walk of small of the statements' package; what the bytes of a quote are.
-/
import Derived.Test.YtnaabapahblhmaaM1
import Derived.OpenShut
import Derived.SliceStrings
namespace Go.Proofs.Ytnaabapahblhmaa
open Go.RowKit
attribute [local go_sem] ext_Bd ext_Bt toList_B add_B size_B

theorem reads_strings {w : World} {a : Addr} {len cap : Nat} {ss : List ByteArray} (hl : len ≤ ss.length) (h : ∀ i, i < ss.length → w.cell? (a.add i) = some (.string (ss.getD i ByteArray.empty))) :
    Reads w (.slice (some a) len cap) (strCells ((ss.take len).map L)) := by
  have hlen : (strCells ((ss.take len).map L)).length = len := by rw [strCells_len, List.length_map, List.length_take]; omega
  refine ⟨some a, cap, by rw [hlen], fun i hi => ?_⟩
  rw [hlen] at hi
  obtain ⟨b, off, spot⟩ := a
  have hspot : spot = none := by simpa [Addr.add] using World.cell?_spot (h 0 (by omega))
  subst hspot
  refine ⟨b, off, rfl, ?_⟩
  have h1 := h i (by omega)
  rw [Go.WideShapes.add_plain] at h1
  rw [h1]
  have hi2 : i < ss.length := by omega
  simp [strCells, hi, hi2, B_L, List.getD_eq_getElem?_getD]

def smallB (ws : List (List UInt8)) : Bool := decide (ws.length ≤ 40) && ws.all fun x => decide (x.length ≤ 300)
theorem small_step {ws : List (List UInt8)} {k : Nat} (h : k < ws.length) (ha : (ws.take k).all (fun x => decide (x.length ≤ 300)) = true) (hx : ws[k].length ≤ 300) : (ws.take (k + 1)).all (fun x => decide (x.length ≤ 300)) = true := by
  rw [List.take_succ_eq_append_getElem h, List.all_append, ha]; simp [hx]
theorem small_stop {ws : List (List UInt8)} {k : Nat} (h : k < ws.length) (hx : ¬ ws[k].length ≤ 300) : smallB ws = false := by
  unfold smallB
  have : ws.all (fun x => decide (x.length ≤ 300)) = false := by
    rw [List.all_eq_false]; exact ⟨ws[k], List.getElem_mem h, by simpa using hx⟩
  rw [this]; simp

set_option maxHeartbeats 1000000 in
theorem small_l (ws : List (List UInt8)) (va : Value) (w : World) (ha : Reads w va (strCells ws)) :
    Calls Try.prog 21 #[va] w fun e w' => e = .returned (.bool (smallB ws)) ∧ w = w' := by
  obtain ⟨a, ca, rfl, hxa⟩ := ha
  simp only [strCells_len] at *
  have HXA := Lib.hid hxa; clear hxa
  by_cases h40 : 40 < ws.length
  · have H := Lib.hid (show smallB ws = false by unfold smallB; rw [decide_eq_false (by omega)]; rfl)
    go_enter Try.func21, Try.ntmps21
    go_wp2
    go_ret
    rw [H.out]
    exact ⟨rfl, rfl⟩
  go_enter Try.func21, Try.ntmps21
  go_wp2
  go_loop [3] (fun i => ∃ k : Nat, i = .int .i64 k ∧ k ≤ ws.length ∧ (ws.take k).all (fun x => decide (x.length ≤ 300)) = true) (fun i => ws.length - (intOf i).toNat)
  case atStart => exact ⟨0, rfl, Nat.zero_le _, by simp⟩
  case round =>
    obtain ⟨k, rfl, hk, hall⟩ := hrel
    have HALL := Lib.hid hall; clear hall
    by_cases hlt : k < ws.length
    · obtain ⟨b1, o1, rfl, hc1⟩ := HXA.out k hlt
      have hcell : w.cell? ⟨b1, o1 + k, none⟩ = some (.string (B ws[k])) := by rw [hc1]; simp [strCells, hlt]
      have hi1 : (k : Int) < (ws.length : Int) := by omega
      clear hc1
      by_cases hx : ws[k].length ≤ 300
      · have HS := Lib.hid (small_step hlt HALL.out hx)
        generalize ws[k] = x at *
        go_wp2
        go_round
        case rel => exact ⟨k + 1, by go_num, by omega, HS.out⟩
        case measure => simp [intOf]; omega
      · have HS := Lib.hid (small_stop hlt hx)
        generalize ws[k] = x at *
        go_wp2
        go_ret
        rw [HS.out]
        exact ⟨rfl, rfl⟩
    · have H := Lib.hid (show smallB ws = true by
        unfold smallB
        rw [decide_eq_true (by omega), Bool.true_and, ← HALL.out, List.take_of_length_le (by omega)])
      go_wp2
      go_ret
      rw [H.out]
      exact ⟨rfl, rfl⟩

theorem small_bd {ws : List (List UInt8)} (h : smallB ws = true) : ws.length ≤ 40 ∧ ∀ x ∈ ws, x.length ≤ 300 := by
  unfold smallB at h
  simp only [Bool.and_eq_true, decide_eq_true_eq, List.all_eq_true] at h
  exact h

/-! ### the bytes of a quote -/
def shownB (c : UInt8) : Prop := 32 ≤ c.toNat ∧ c.toNat ≠ 127
theorem hexD_shown (n : Nat) (h : n < 16) : shownB (T.hexD n) := by
  match n, h with
  | 0, _ | 1, _ | 2, _ | 3, _ | 4, _ | 5, _ | 6, _ | 7, _ | 8, _ | 9, _ | 10, _ | 11, _ | 12, _ | 13, _ | 14, _ | 15, _ => exact ⟨by decide, by decide⟩
  | n + 16, h => omega
theorem piece_shown {l : List UInt8} (h : l ≠ []) : ∀ c ∈ T.piece l, shownB c := by
  have hb0 := T.bt_lt l 0
  by_cases c1 : T.num l = 34 ∨ T.num l = 92
  · rw [T.piece_quote c1]
    rcases T.kind l with ⟨a, hn, _⟩ | ⟨_, hn, _⟩ | ⟨_, hn, hr, _⟩
    · obtain ⟨c, r, rfl, h0⟩ := T.cons_of h
      intro x hx
      simp at hx
      rcases hx with rfl | rfl
      · exact ⟨by decide, by decide⟩
      · exact ⟨by omega, by omega⟩
    · omega
    · omega
  by_cases c2 : T.num l = 10
  · rw [T.piece_line c2]
    intro x hx
    simp at hx
    rcases hx with rfl | rfl <;> exact ⟨by decide, by decide⟩
  by_cases c3 : T.num l < 32 ∨ T.num l = 127
  · rw [T.piece_hid c1 c2 c3]
    intro x hx
    simp at hx
    rcases hx with rfl | rfl | rfl | rfl
    · exact ⟨by decide, by decide⟩
    · exact ⟨by decide, by decide⟩
    · exact hexD_shown _ (by omega)
    · exact hexD_shown _ (by omega)
  · rw [T.piece_as c1 c2 c3]
    rcases T.kind l with ⟨a, hn, _, hw⟩ | ⟨a, hn, _⟩ | ⟨a, hn, hr, hw, hc⟩
    · obtain ⟨c, r, rfl, h0⟩ := T.cons_of h
      rw [hw]
      intro x hx
      simp at hx
      subst hx
      exact ⟨by omega, by omega⟩
    · omega
    · intro x hx
      obtain ⟨i, hi, rfl⟩ := List.getElem_of_mem hx
      have hi2 : i < T.wid l := by simp at hi; omega
      have hi3 : i < l.length := by simp at hi; omega
      have := hc i hi2
      have e : T.bt l i = ((l.take (T.wid l))[i]).toNat := by simp [T.bt, List.getD_eq_getElem?_getD, hi3]
      exact ⟨by omega, by omega⟩
theorem scan_shown : ∀ (n : Nat) (l : List UInt8), l.length ≤ n → ∀ c ∈ T.scan T.piece l, shownB c
  | 0, l, hl => by
    have : l = [] := List.length_eq_zero_iff.1 (by omega)
    subst this; simp [T.scan_nil]
  | n + 1, l, hl => by
    by_cases h : l = []
    · subst h; simp [T.scan_nil]
    · have hw := T.wid_pos l
      rw [T.scan_cons _ h]
      intro c hc
      rcases List.mem_append.1 hc with hc | hc
      · exact piece_shown h c hc
      · exact scan_shown n (l.drop (T.wid l)) (by simp; omega) c hc
theorem quote_shown (l : List UInt8) : ∀ c ∈ T.quoteL l, shownB c := by
  intro c hc
  simp only [T.quoteL, List.mem_cons, List.mem_append, List.not_mem_nil, or_false] at hc
  rcases hc with rfl | hc | rfl
  · exact ⟨by decide, by decide⟩
  · exact scan_shown l.length l (Nat.le_refl _) c hc
  · exact ⟨by decide, by decide⟩
end Go.Proofs.Ytnaabapahblhmaa
