/-
  Walks of plain, light and small of the statements' package.
-/
import Derived.Test.YtfhopgficckjkaaRecordMarks
import Derived.Test.YtfhopgficckjkaaRecordRight
namespace Go.Proofs.Ytfhopgficckjkaa
open Go.RowKit
attribute [local go_sem] ext_Bd ext_Bl ext_Bt toList_B add_B size_B get_Bt

/-- A right entry. -/
def plainE (pos epoch : Int) : R.En := ⟨pos, epoch, ⟨[115], 0, 1, 1, [([107], [])]⟩⟩
theorem plain_b (pos epoch : Int) : (plainE pos epoch).b = ⟨[115], 0, 1, 1, [([107], [])]⟩ := rfl
theorem plain_fits (pos epoch : Int) : E.fits (plainE pos epoch).b = 0 := by rw [plain_b]; decide +kernel
theorem plain_right {pos epoch : Int} (h1 : 1 ≤ pos) (h2 : pos ≤ 274877906944) (h3 : 1 ≤ epoch) (h4 : epoch ≤ 274877906944) : R.right (plainE pos epoch) = true :=
  R.right_iff.2 ⟨h1, h2, h3, h4, plain_fits pos epoch⟩
theorem plain_small (pos epoch : Int) : E.Small (plainE pos epoch).b := by
  rw [plain_b]
  refine ⟨by decide, by decide, fun e he => ?_⟩
  simp at he
  subst he
  decide

set_option maxHeartbeats 1000000 in
set_option maxRecDepth 100000 in
theorem plain_l (pos epoch : Int) (w : World) :
    Calls Try.prog 30 #[.int .i64 pos, .int .i64 epoch] w fun r w' => ∃ g, r = .returned (enV (plainE pos epoch) (.slice (some ⟨g, 0, none⟩) 1 1)) ∧ ReadsE w' (.slice (some ⟨g, 0, none⟩) 1 1) [([107], [])] ∧ Below w.heap.size w w' := by
  go_enter Try.func30, Try.ntmps30
  go_wp2
  have hB : Below w.heap.size w ((w.alloc (.cells #[.int .i64 pos, .int .i64 epoch, .string ⟨#[115]⟩, .int .i64 0, .int .i64 1, .int .i64 1, .slice (some ⟨w.heap.size + 1, 0, none⟩) 1 1] 26)).alloc (.cells #[.string ⟨#[107]⟩, .string ⟨#[]⟩] 56)) :=
    ((Below.refl _ w).alloc (Nat.le_refl _) _).alloc (by simp) _
  have hk : ∀ j, ((w.alloc (.cells #[.int .i64 pos, .int .i64 epoch, .string ⟨#[115]⟩, .int .i64 0, .int .i64 1, .int .i64 1, .slice (some ⟨w.heap.size + 1, 0, none⟩) 1 1] 26)).alloc (.cells #[.string ⟨#[107]⟩, .string ⟨#[]⟩] 56)).cell? ⟨w.heap.size, j, none⟩ =
      (#[.int .i64 pos, .int .i64 epoch, .string ⟨#[115]⟩, .int .i64 0, .int .i64 1, .int .i64 1, .slice (some ⟨w.heap.size + 1, 0, none⟩) 1 1] : Array Value)[j]? := fun j =>
    box_at ((Below.refl _ _).alloc (Nat.le_refl _) _) j
  have he : ∀ j, ((w.alloc (.cells #[.int .i64 pos, .int .i64 epoch, .string ⟨#[115]⟩, .int .i64 0, .int .i64 1, .int .i64 1, .slice (some ⟨w.heap.size + 1, 0, none⟩) 1 1] 26)).alloc (.cells #[.string ⟨#[107]⟩, .string ⟨#[]⟩] 56)).cell? ⟨w.heap.size + 1, j, none⟩ =
      (#[.string ⟨#[107]⟩, .string ⟨#[]⟩] : Array Value)[j]? := fun j => by
    have := box_cells (w.alloc (.cells #[.int .i64 pos, .int .i64 epoch, .string ⟨#[115]⟩, .int .i64 0, .int .i64 1, .int .i64 1, .slice (some ⟨w.heap.size + 1, 0, none⟩) 1 1] 26)) #[.string ⟨#[107]⟩, .string ⟨#[]⟩] 56 j
    rwa [World.size_alloc] at this
  generalize (w.alloc (.cells #[.int .i64 pos, .int .i64 epoch, .string ⟨#[115]⟩, .int .i64 0, .int .i64 1, .int .i64 1, .slice (some ⟨w.heap.size + 1, 0, none⟩) 1 1] 26)).alloc (.cells #[.string ⟨#[107]⟩, .string ⟨#[]⟩] 56) = w9 at *
  have k0 := hk 0
  have k1 := hk 1
  have k2 := hk 2
  have k3 := hk 3
  have k4 := hk 4
  have k5 := hk 5
  have k6 := hk 6
  have e0 := he 0
  have e1 := he 1
  simp only [List.getElem?_toArray, List.getElem?_cons_zero, List.getElem?_cons_succ] at k0 k1 k2 k3 k4 k5 k6 e0 e1
  clear hk he
  refine bodyPost_ret (v := enV (plainE pos epoch) (.slice (some ⟨w.heap.size + 1, 0, none⟩) 1 1)) (by simp [results, Try.results30, go_sem, k0, k1, k2, k3, k4, k5, k6]; exact ⟨rfl, rfl, rfl, rfl, rfl, rfl⟩) rfl ⟨_, rfl, ?_, hB⟩
  refine ⟨_, 1, rfl, Nat.le_refl _, fun h => (by cases h), fun i hi => ?_⟩
  obtain rfl : i = 0 := by simpa using hi
  exact ⟨w.heap.size + 1, 0, rfl, e0, e1⟩

def R.Light (b : E.Bat) : Prop := b.stream.length ≤ 300 ∧ b.events.length ≤ 20 ∧ ∀ e ∈ b.events, e.1.length ≤ 300 ∧ e.2.length ≤ 500
theorem light_small {b : E.Bat} (h : R.Light b) : E.Small b :=
  ⟨by have := h.1; omega, by have := h.2.1; omega, fun e he => by have := h.2.2 e he; omega⟩

set_option maxHeartbeats 2000000 in
set_option maxRecDepth 100000 in
theorem light_l (e : R.En) (v : Value) (w : World) (hv : ReadsE w v e.b.events) :
    Calls Try.prog 11 #[enV e v] w fun r w' => (r = .returned (.bool false) ∨ (r = .returned (.bool true) ∧ R.Light e.b)) ∧ Below w.heap.size w w' := by
  obtain ⟨pos, ep, b⟩ := e
  dsimp only at hv ⊢
  obtain ⟨a, cap, rfl, _, _, hx⟩ := hv
  have HX := Lib.hid hx; clear hx
  have hB : Below w.heap.size w (w.alloc (.cells #[.int .i64 pos, .int .i64 ep, .string (B b.stream), .int .i64 b.expect, .int .i64 b.session, .int .i64 b.seq, .slice a b.events.length cap] 26)) := (Below.refl _ w).alloc (Nat.le_refl _) _
  by_cases h1 : 300 < b.stream.length
  · go_enter Try.func11, Try.ntmps11
    go_wp2
    go_ret
    exact ⟨.inl rfl, hB⟩
  by_cases h2 : 20 < b.events.length
  · go_enter Try.func11, Try.ntmps11
    go_wp2
    go_ret
    exact ⟨.inl rfl, hB⟩
  go_enter Try.func11, Try.ntmps11
  go_wp2
  have c6 : (w.alloc (.cells #[.int .i64 pos, .int .i64 ep, .string (B b.stream), .int .i64 b.expect, .int .i64 b.session, .int .i64 b.seq, .slice a b.events.length cap] 26)).cell? ⟨w.heap.size, 6, none⟩ = some (.slice a b.events.length cap) := by
    rw [World.cell?_alloc_new]; rfl
  generalize w.alloc (.cells #[.int .i64 pos, .int .i64 ep, .string (B b.stream), .int .i64 b.expect, .int .i64 b.session, .int .i64 b.seq, .slice a b.events.length cap] 26) = W at *
  have HL : Hid ((∀ e ∈ b.events, e.1.length ≤ 300 ∧ e.2.length ≤ 500) → R.Light b) := Lib.hid fun h => ⟨by omega, by omega, h⟩
  generalize b.events = evs at *
  go_loop [3] (fun i => ∃ k : Nat, i = .int .i64 k ∧ k ≤ evs.length ∧ ∀ e ∈ evs.take k, e.1.length ≤ 300 ∧ e.2.length ≤ 500) (fun i => evs.length - (intOf i).toNat)
  case atStart => exact ⟨0, rfl, Nat.zero_le _, by simp⟩
  case round =>
    obtain ⟨k, rfl, hk, hall⟩ := hrel
    have HALL := Lib.hid hall; clear hall
    by_cases hlt : k < evs.length
    · obtain ⟨b1, o1, rfl, p0, p1⟩ := HX.out k hlt
      have x0 : W.cell? ⟨b1, o1 + k * 2, none⟩ = some (.string (B evs[k].1)) := by rw [hB.cell (World.block_lt_of_cell? w _ p0)]; exact p0
      have x1 : W.cell? ⟨b1, o1 + k * 2 + 1, none⟩ = some (.string (B evs[k].2)) := by rw [hB.cell (World.block_lt_of_cell? w _ p1)]; exact p1
      have hi1 : (k : Int) < (evs.length : Int) := by omega
      clear p0 p1
      have HN : Hid (evs[k].1.length ≤ 300 → evs[k].2.length ≤ 500 → ∀ e ∈ evs.take (k + 1), e.1.length ≤ 300 ∧ e.2.length ≤ 500) := Lib.hid fun g1 g2 e he => by
        rw [List.take_succ_eq_append_getElem hlt, List.mem_append] at he
        rcases he with he | he
        · exact HALL.out e he
        · simp at he; subst he; exact ⟨g1, g2⟩
      generalize evs[k] = e at *
      by_cases h3 : 300 < e.1.length
      · have h3i : (300 : Int) < e.1.length := by omega
        go_wp2
        go_ret
        exact ⟨.inl rfl, hB⟩
      have h3i : ¬ (300 : Int) < e.1.length := by omega
      by_cases h4 : 500 < e.2.length
      · have h4i : (500 : Int) < e.2.length := by omega
        go_wp2
        go_ret
        exact ⟨.inl rfl, hB⟩
      have h4i : ¬ (500 : Int) < e.2.length := by omega
      have HN2 := Lib.hid (HN.out (by omega) (by omega))
      go_wp2
      go_round
      case rel => exact ⟨k + 1, by go_num, by omega, HN2.out⟩
      case measure => simp [intOf]; omega
    · have hal := HALL.out
      rw [List.take_of_length_le (by omega)] at hal
      have HAL := Lib.hid hal; clear hal
      go_wp2
      go_ret
      exact ⟨.inr ⟨rfl, HL.out HAL.out⟩, hB⟩

set_option maxHeartbeats 2000000 in
set_option maxRecDepth 100000 in
theorem small_l (es : List EV) (v : Value) (w : World) (hv : ReadsR w v es) :
    Calls Try.prog 10 #[v] w fun r w' => (r = .returned (.bool false) ∨ (r = .returned (.bool true) ∧ es.length ≤ 40 ∧ ∀ p ∈ es, R.Light p.1.b)) ∧ Below w.heap.size w w' := by
  obtain ⟨a, cap, rfl, _, _, hx⟩ := hv
  have HX := Lib.hid hx; clear hx
  by_cases h1 : 40 < es.length
  · have h1i : (40 : Int) < es.length := by omega
    go_enter Try.func10, Try.ntmps10
    go_wp2
    go_ret
    exact ⟨.inl rfl, Below.refl _ _⟩
  have h1i : ¬ (40 : Int) < es.length := by omega
  go_enter Try.func10, Try.ntmps10
  go_wp2
  go_loopw [3] (fun i wr => ∃ k : Nat, i = .int .i64 k ∧ k ≤ es.length ∧ (∀ p ∈ es.take k, R.Light p.1.b) ∧ Below w.heap.size w wr) (fun i _ => es.length - (intOf i).toNat)
  case atStart => exact ⟨0, rfl, Nat.zero_le _, by simp, Below.refl _ _⟩
  case round =>
    obtain ⟨k, rfl, hk, hall, hbe⟩ := hrel
    have HALL := Lib.hid hall; clear hall
    have HBE := Lib.hid hbe; clear hbe
    by_cases hlt : k < es.length
    · obtain ⟨hre, -, b1, o1, rfl, hat7⟩ := HX.out k hlt
      have hi1 : (k : Int) < (es.length : Int) := by omega
      have h7 := hat7.keep (below_keeps HBE.out)
      have hre2 := readsE_below hre HBE.out
      clear hat7 hre
      have HN : Hid (R.Light es[k].1.b → ∀ p ∈ es.take (k + 1), R.Light p.1.b) := Lib.hid fun g p hp => by
        rw [List.take_succ_eq_append_getElem hlt, List.mem_append] at hp
        rcases hp with hp | hp
        · exact HALL.out p hp
        · simp at hp; subst hp; exact g
      generalize es[k] = p at *
      obtain ⟨e, u⟩ := p
      dsimp only at h7 hre2 HN
      have HRE := Lib.hid hre2
      obtain ⟨ea, ec, rfl, _⟩ := hre2
      obtain ⟨c0, c1, c2, c3, c4, c5, c6⟩ := h7
      go_wp2_with fail
      refine (light_l e _ wr HRE.out).mono ?_
      rintro x w2 ⟨hres, hb2⟩
      have HB2 := Lib.hid (HBE.out.trans (hb2.mono HBE.out.size))
      clear hb2 c0 c1 c2 c3 c4 c5 c6
      rcases hres with rfl | ⟨rfl, hli⟩
      · go_wp2
        go_ret
        exact ⟨.inl rfl, HB2.out⟩
      · have HN2 := Lib.hid (HN.out hli)
        go_wp2
        go_roundw
        case rel => exact ⟨k + 1, by go_num, by omega, HN2.out, HB2.out⟩
        case measure => simp [intOf]; omega
    · have HE := Lib.hid (show ∀ p ∈ es, R.Light p.1.b by have := HALL.out; rwa [List.take_of_length_le (by omega)] at this)
      go_wp2
      go_ret
      exact ⟨.inr ⟨rfl, by omega, HE.out⟩, HBE.out⟩
end Go.Proofs.Ytfhopgficckjkaa
