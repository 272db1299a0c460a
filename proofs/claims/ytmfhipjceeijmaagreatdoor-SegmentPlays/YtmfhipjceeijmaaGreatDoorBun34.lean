/-
  Own texts, joined: SegHelp SegBegun SegShown SegTwo
-/
import Derived.Test.YtmfhipjceeijmaaGreatDoorBun32
import Derived.Deep.DeepCutAuto
import Derived.Test.YtmfhipjceeijmaaGreatDoorBun13

/-
  Helpers of chapter 9's laws: plain, fits, pick, begun.
-/
namespace Go.Proofs.YtmfhipjceeijmaaGreatDoor.G
open Go.RowKit
open D (dP)
attribute [local go_sem] ext_Bd ext_Bl ext_Bt toList_B add_B size_B get_Bt

set_option maxHeartbeats 1000000 in
set_option maxRecDepth 100000 in
theorem plain9_h (pos epoch : Int) (w : World) :
    Calls Tryz.prog 15 #[.int .i64 pos, .int .i64 epoch] w fun r w' => r = .returned (enV (plainE pos epoch) (.slice (some ⟨w.heap.size + 1, 0, none⟩) 1 1)) ∧ w'.heap[w.heap.size + 1]? = some evObj ∧ Below w.heap.size w w' := by
  go_enter Tryz.func15, Tryz.ntmps15
  go_wp2
  have hB : Below w.heap.size w ((w.alloc (.cells #[.int .i64 pos, .int .i64 epoch, .string ⟨#[115]⟩, .int .i64 0, .int .i64 1, .int .i64 1, .slice (some ⟨w.heap.size + 1, 0, none⟩) 1 1] 53)).alloc (.cells #[.string ⟨#[107]⟩, .string ⟨#[]⟩] 92)) :=
    ((Below.refl _ w).alloc (Nat.le_refl _) _).alloc (by simp) _
  have hk : ∀ j, ((w.alloc (.cells #[.int .i64 pos, .int .i64 epoch, .string ⟨#[115]⟩, .int .i64 0, .int .i64 1, .int .i64 1, .slice (some ⟨w.heap.size + 1, 0, none⟩) 1 1] 53)).alloc (.cells #[.string ⟨#[107]⟩, .string ⟨#[]⟩] 92)).cell? ⟨w.heap.size, j, none⟩ =
      (#[.int .i64 pos, .int .i64 epoch, .string ⟨#[115]⟩, .int .i64 0, .int .i64 1, .int .i64 1, .slice (some ⟨w.heap.size + 1, 0, none⟩) 1 1] : Array Value)[j]? := fun j =>
    box_at ((Below.refl _ _).alloc (Nat.le_refl _) _) j
  have he : ((w.alloc (.cells #[.int .i64 pos, .int .i64 epoch, .string ⟨#[115]⟩, .int .i64 0, .int .i64 1, .int .i64 1, .slice (some ⟨w.heap.size + 1, 0, none⟩) 1 1] 53)).alloc (.cells #[.string ⟨#[107]⟩, .string ⟨#[]⟩] 92)).heap[w.heap.size + 1]? = some evObj := by
    have := heap_alloc_new (w.alloc (.cells #[.int .i64 pos, .int .i64 epoch, .string ⟨#[115]⟩, .int .i64 0, .int .i64 1, .int .i64 1, .slice (some ⟨w.heap.size + 1, 0, none⟩) 1 1] 53)) (.cells #[.string ⟨#[107]⟩, .string ⟨#[]⟩] 92)
    rwa [World.size_alloc] at this
  generalize (w.alloc (.cells #[.int .i64 pos, .int .i64 epoch, .string ⟨#[115]⟩, .int .i64 0, .int .i64 1, .int .i64 1, .slice (some ⟨w.heap.size + 1, 0, none⟩) 1 1] 53)).alloc (.cells #[.string ⟨#[107]⟩, .string ⟨#[]⟩] 92) = w9 at *
  have k0 := hk 0
  have k1 := hk 1
  have k2 := hk 2
  have k3 := hk 3
  have k4 := hk 4
  have k5 := hk 5
  have k6 := hk 6
  simp only [List.getElem?_toArray, List.getElem?_cons_zero, List.getElem?_cons_succ] at k0 k1 k2 k3 k4 k5 k6
  clear hk
  exact bodyPost_ret (v := enV (plainE pos epoch) (.slice (some ⟨w.heap.size + 1, 0, none⟩) 1 1)) (by simp [results, Tryz.results15, go_sem, k0, k1, k2, k3, k4, k5, k6]; exact ⟨rfl, rfl, rfl, rfl, rfl, rfl⟩) rfl ⟨rfl, he, hB⟩
def LightAll (es : List EV) : Prop := es.length ≤ 40 ∧ ∀ p ∈ es, R.Light p.1.b
set_option maxHeartbeats 4000000 in
set_option maxRecDepth 100000 in
theorem fits9_l (es : List EV) (v : Value) (w : World) (hv : ReadsR w v es) :
    Calls Tryz.prog 18 #[v] w fun r w' => (r = .returned (.bool false) ∨ (r = .returned (.bool true) ∧ LightAll es)) ∧ Below w.heap.size w w' := by
  obtain ⟨a, cap, rfl, _, _, hx⟩ := hv
  have HX := Lib.hid hx; clear hx
  by_cases h1 : 40 < es.length
  · have h1i : (40 : Int) < es.length := by omega
    go_enter Tryz.func18, Tryz.ntmps18
    go_wp2
    go_ret
    exact ⟨.inl rfl, Below.refl _ _⟩
  have h1i : ¬ (40 : Int) < es.length := by omega
  go_enter Tryz.func18, Tryz.ntmps18
  go_wp2
  go_loopw [3] (fun i wr => ∃ k : Nat, i = .int .i64 k ∧ k ≤ es.length ∧ Hid (∀ p ∈ es.take k, R.Light p.1.b) ∧ Hid (Below w.heap.size w wr)) (fun i _ => es.length - (intOf i).toNat)
  case atStart => exact ⟨0, rfl, Nat.zero_le _, Lib.hid (by simp), Lib.hid (Below.refl _ _)⟩
  case round =>
    obtain ⟨k, rfl, hk, HALL, HBE⟩ := hrel
    by_cases hlt : k < es.length
    · obtain ⟨hre, -, b1, o1, rfl, hat7⟩ := HX.out k hlt
      have hi1 : (k : Int) < (es.length : Int) := by omega
      have h7 := hat7.keep (below_keeps HBE.out)
      have hre2 := readsE_below hre HBE.out
      clear hat7 hre
      have HN : Hid (R.Light es[k].1.b → ∀ p ∈ es.take (k + 1), R.Light p.1.b) := Lib.hid fun g p hp => by
        rw [List.take_succ_eq_append_getElem hlt, List.mem_append] at hp
        rcases hp with hp | hp
        · exact HALL.out p hp
        · simp at hp; subst hp; exact g
      generalize es[k] = p at *
      obtain ⟨⟨pos, ep, ⟨st, ex, se, sq, evs⟩⟩, u⟩ := p
      dsimp only at h7 hre2 HN
      obtain ⟨ea, ec, rfl, _, _, hxe⟩ := hre2
      have HXE := Lib.hid hxe
      clear hxe
      obtain ⟨c0, c1, c2, c3, c4, c5, c6⟩ := h7
      have HA := Lib.hid (HBE.out.alloc HBE.out.size (.cells #[.string (B st), .int .i64 ex, .int .i64 se, .int .i64 sq, .slice ea evs.length ec] 51))
      have HA0 := Lib.hid ((Below.refl wr.heap.size wr).alloc (Nat.le_refl _) (.cells #[.string (B st), .int .i64 ex, .int .i64 se, .int .i64 sq, .slice ea evs.length ec] 51))
      by_cases t1 : 300 < st.length
      · have t1i : (300 : Int) < (st.length : Int) := by omega
        go_wp2
        go_ret
        exact ⟨.inl rfl, HA.out⟩
      have t1i : ¬ (300 : Int) < (st.length : Int) := by omega
      by_cases t2 : 20 < evs.length
      · have t2i : (20 : Int) < (evs.length : Int) := by omega
        go_wp2
        go_ret
        exact ⟨.inl rfl, HA.out⟩
      have t2i : ¬ (20 : Int) < (evs.length : Int) := by omega
      go_wp2
      have d0 : (wr.alloc (.cells #[.string (B st), .int .i64 ex, .int .i64 se, .int .i64 sq, .slice ea evs.length ec] 51)).cell? ⟨wr.heap.size, 4, none⟩ = some (.slice ea evs.length ec) := by
        rw [World.cell?_alloc_new]; rfl
      clear c0 c1 c2 c3 c4 c5 c6
      generalize wr.alloc (.cells #[.string (B st), .int .i64 ex, .int .i64 se, .int .i64 sq, .slice ea evs.length ec] 51) = W at *
      go_loop [5] (fun i => ∃ m : Nat, i = .int .i64 m ∧ m ≤ evs.length ∧ Hid (∀ e ∈ evs.take m, e.1.length ≤ 300 ∧ e.2.length ≤ 500)) (fun i => evs.length - (intOf i).toNat)
      case atStart => exact ⟨0, rfl, Nat.zero_le _, Lib.hid (by simp)⟩
      case round =>
        obtain ⟨m, rfl, hm, HEV⟩ := hrel
        by_cases hml : m < evs.length
        · obtain ⟨b2, o2, rfl, p0, p1⟩ := HXE.out m hml
          have x0 := below_keeps HA0.out _ _ p0
          have x1 := below_keeps HA0.out _ _ p1
          have hi2 : (m : Int) < (evs.length : Int) := by omega
          clear p0 p1
          have HNE : Hid (evs[m].1.length ≤ 300 → evs[m].2.length ≤ 500 → ∀ e ∈ evs.take (m + 1), e.1.length ≤ 300 ∧ e.2.length ≤ 500) := Lib.hid fun g1 g2 e he => by
            rw [List.take_succ_eq_append_getElem hml, List.mem_append] at he
            rcases he with he | he
            · exact HEV.out e he
            · simp at he; subst he; exact ⟨g1, g2⟩
          generalize evs[m] = e at *
          by_cases h3 : 300 < e.1.length
          · have h3i : (300 : Int) < e.1.length := by omega
            go_wp2
            go_ret
            exact ⟨.inl rfl, HA.out⟩
          have h3i : ¬ (300 : Int) < e.1.length := by omega
          by_cases h4 : 500 < e.2.length
          · have h4i : (500 : Int) < e.2.length := by omega
            go_wp2
            go_ret
            exact ⟨.inl rfl, HA.out⟩
          have h4i : ¬ (500 : Int) < e.2.length := by omega
          have HN2 := Lib.hid (HNE.out (by omega) (by omega))
          go_wp2
          go_round
          case rel => exact ⟨m + 1, by go_num, by omega, HN2⟩
          case measure => simp [intOf]; omega
        · have hm1 : ¬ (m : Int) < (evs.length : Int) := by omega
          have HL : Hid (∀ p ∈ es.take (k + 1), R.Light p.1.b) := Lib.hid (HN.out ⟨by show st.length ≤ 300; omega, by show evs.length ≤ 20; omega, by
            have := HEV.out
            rwa [List.take_of_length_le (by omega)] at this⟩)
          go_wp2
          go_roundw
          case rel => exact ⟨k + 1, by go_num, by omega, HL, HA⟩
          case measure => simp [intOf]; omega
    · have hi1 : ¬ (k : Int) < (es.length : Int) := by omega
      have HE := Lib.hid (show ∀ p ∈ es, R.Light p.1.b by have := HALL.out; rwa [List.take_of_length_le (by omega)] at this)
      go_wp2
      go_ret
      exact ⟨.inr ⟨rfl, by omega, HE.out⟩, HBE.out⟩
end Go.Proofs.YtmfhipjceeijmaaGreatDoor.G

/-
  Helpers of chapter 9's laws: pick, begun.
-/
namespace Go.Proofs.YtmfhipjceeijmaaGreatDoor.G
open Go.RowKit
open D (dP)
attribute [local go_sem] ext_Bd ext_Bl ext_Bt toList_B add_B size_B get_Bt

def pickN (c : Int) (n : Nat) : Nat := (if c < 0 then -(c + 1) else c).toNat % n
theorem pickN_lt (c : Int) {n : Nat} (h : 0 < n) : pickN c n < n := Nat.mod_lt _ h
set_option maxHeartbeats 1000000 in
set_option maxRecDepth 100000 in
theorem pick9_l (c : Int) (n : Nat) (k : Nat) (w : World) (hc : i64B c) (hn : 0 < n) (hn2 : n ≤ 1000000) (H : Hid (pickN c n = k)) :
    Calls Tryz.prog 7 #[.int .i64 c, .int .i64 (n : Int)] w fun x w' => x = .returned (.int .i64 (k : Int)) ∧ w' = w := by
  obtain ⟨h1, h2⟩ := hc
  have hn0 : ((n : Int) == 0) = false := beq_eq_false_iff_ne.2 (by omega)
  have hn1 : ¬ (n : Int) = 0 := by omega
  by_cases h : c < 0
  · have HE : Hid (Int.tmod (-(c + 1)) (n : Int) = (k : Int)) := Lib.hid (by
      rw [← H.out]
      unfold pickN
      rw [if_pos h, Int.tmod_eq_emod_of_nonneg (by omega), Int.natCast_emod, Int.toNat_of_nonneg (by omega)])
    go_enter Tryz.func7, Tryz.ntmps7
    go_wp2
    go_ret
    rw [← HE.out, Int.neg_tmod]
    exact ⟨rfl, rfl⟩
  · have HE : Hid (c % (n : Int) = (k : Int)) := Lib.hid (by
      rw [← H.out]
      unfold pickN
      rw [if_neg h, Int.natCast_emod, Int.toNat_of_nonneg (by omega)])
    go_enter Tryz.func7, Tryz.ntmps7
    go_wp2
    go_ret
    rw [← HE.out]
    exact ⟨rfl, rfl⟩
set_option maxHeartbeats 2000000 in
set_option maxRecDepth 100000 in
theorem mNew9 (room : Nat) (w : World) (h1 : 1 ≤ room) (h2 : room ≤ 1073741824) :
    Calls Tryz.prog 20 #[.int .i64 (room : Int)] w fun x w' => x = .returned (.tuple #[.pointer (some ⟨w.heap.size, 0, none⟩), .int .i64 0]) ∧ w'.heap[w.heap.size]? = some (.cells #[.slice none 0 0, .int .i64 (room : Int)] 104 (0, 0)) ∧ Below w.heap.size w w' := by
  have h1i : (1 : Int) ≤ (room : Int) := by omega
  have h2i : (room : Int) ≤ 1073741824 := by omega
  go_enter Tryz.func20, Tryz.ntmps20
  go_wp2
  go_ret2
  exact ⟨rfl, World.alloc_heap_new w _, (Below.refl _ w).alloc (Nat.le_refl _) _⟩
theorem set9 {w : World} {g : Nat} {cs : Array Value} {t : TypeId} (h : w.heap[g]? = some (.cells cs t (0, 0))) (j : Nat) (u : Value) : (w.setCell ⟨g, j, none⟩ u).heap[g]? = some (.cells (cs.setIfInBounds j u) t (0, 0)) := by
  obtain ⟨hlt, hk⟩ := Array.getElem?_eq_some_iff.1 h
  show (w.heap.modify g _)[g]? = _
  rw [Array.getElem?_eq_getElem (by rw [Array.size_modify]; exact hlt), Array.getElem_modify_self, hk]
  rfl
theorem blk9 {w : World} {h : Nat} {cs : Array Value} {t : TypeId} (ho : w.heap[h]? = some (.cells cs t (0, 0))) (j : Nat) : w.cell? ⟨h, j, none⟩ = cs[j]? := by simp [World.cell?, ho]
theorem one_two {w : World} {g : Nat} {x y : Value} {t : TypeId} (h : w.heap[g]? = some (.cells #[x, y] t (0, 0))) (a b : Value) : ((w.setCell ⟨g, 0, none⟩ a).setCell ⟨g, 1, none⟩ b).cell? ⟨g, 0, none⟩ = some a ∧ ((w.setCell ⟨g, 0, none⟩ a).setCell ⟨g, 1, none⟩ b).cell? ⟨g, 1, none⟩ = some b := by
  have h1 := set9 (set9 h 0 a) 1 b
  exact ⟨by rw [blk9 h1]; rfl, by rw [blk9 h1]; rfl⟩
set_option maxHeartbeats 4000000 in
set_option maxRecDepth 100000 in
theorem begun9_l (C : D.DC) {bs : Nat} (room : Nat) (w : World) (hb : bs ≤ w.heap.size) (h1 : 1 ≤ room) (h2 : room ≤ 1073741824) :
    Calls Tryz.prog 6 #[.int .i64 (room : Int)] w fun x w' => (∃ p m S, x = .returned (.tuple #[.agg #[dP p, .pointer (some ⟨m, 0, none⟩)], .bool true]) ∧ C.At bs w' p room [] S ∧ w'.heap[m]? = some (.cells #[.slice none 0 0, .int .i64 (room : Int)] 104 (0, 0)) ∧ bs ≤ m ∧ ¬ S m) ∧ Below w.heap.size w w' := by
  have HB := Lib.hid hb
  clear hb
  have HB0 := Lib.hid ((Below.refl w.heap.size w).alloc (Nat.le_refl _) (.cells #[.pointer none, .pointer none] 28))
  have HX0 := Lib.hid (heap_alloc_new w (.cells #[.pointer none, .pointer none] 28))
  have HS0 : Hid ((w.alloc (.cells #[.pointer none, .pointer none] 28)).heap.size = w.heap.size + 1) := Lib.hid (by simp)
  have HNEW := Lib.hid (C.new_ok (bs := bs) (w := w.alloc (.cells #[.pointer none, .pointer none] 28)) room (Nat.le_trans HB.out HB0.out.size) h1 h2)
  go_enter Tryz.func6, Tryz.ntmps6
  go_wp2_with fail
  generalize w.alloc (.cells #[.pointer none, .pointer none] 28) = w0 at *
  refine HNEW.out.mono ?_
  rintro x w1 ⟨⟨p, S, rfl, hd, hS⟩, hb1⟩
  rw [HS0.out] at hS
  have HS := Lib.hid hS
  have HD1 := Lib.hid hd
  have HB1 := Lib.hid (HB0.out.trans (hb1.mono HB0.out.size))
  have HX1 : Hid (w1.heap[w.heap.size]? = some (.cells #[.pointer none, .pointer none] 28 (0, 0))) := Lib.hid ((hb1.block _ (by rw [HS0.out]; omega)).trans HX0.out)
  have hs1 : w.heap.size < w1.heap.size := lt_of_block HX1.out
  clear hd hS hb1 HNEW HX0 HB0
  go_wp2_with fail
  refine (mNew9 room w1 h1 h2).mono ?_
  rintro x w2 ⟨rfl, hm, hb2⟩
  have HM := Lib.hid hm
  have HD2 := Lib.hid (C.below HD1.out hb2)
  have HB2 := Lib.hid (HB1.out.trans (hb2.mono HB1.out.size))
  have HX2 : Hid (w2.heap[w.heap.size]? = some (.cells #[.pointer none, .pointer none] 28 (0, 0))) := Lib.hid ((hb2.block _ hs1).trans HX1.out)
  have HNS : Hid (¬ S w1.heap.size) := Lib.hid fun h => by have := (C.low HD1.out h).2; omega
  obtain ⟨m, hme⟩ : ∃ m, w1.heap.size = m := ⟨_, rfl⟩
  rw [hme] at HM HNS hs1
  rw [hme]
  clear hm hb2 HD1 HB1 HX1 hme
  have z0 : w2.cell? ⟨w.heap.size, 0, none⟩ = some (.pointer none) := by simp [World.cell?, HX2.out]
  have z1 : w2.cell? ⟨w.heap.size, 1, none⟩ = some (.pointer none) := by simp [World.cell?, HX2.out]
  have f0 : w2.frozen? ⟨w.heap.size, 0, none⟩ = false := by simp [World.frozen?, HX2.out]
  have f1 : w2.frozen? ⟨w.heap.size, 1, none⟩ = false := by simp [World.frozen?, HX2.out]
  have HW3 : Hid (Below w.heap.size w ((w2.setCell ⟨w.heap.size, 0, none⟩ (dP p)).setCell ⟨w.heap.size, 1, none⟩ (.pointer (some ⟨m, 0, none⟩)))) := Lib.hid ⟨HB2.out.os, HB2.out.tape, HB2.out.output, by simpa using HB2.out.size, fun k hk => by
    rw [Below.heap_setCell _ _ _ _ (by show k ≠ w.heap.size; omega), Below.heap_setCell _ _ _ _ (by show k ≠ w.heap.size; omega)]
    exact HB2.out.block k hk⟩
  have HD3 := Lib.hid (C.keep HD2.out (w' := (w2.setCell ⟨w.heap.size, 0, none⟩ (dP p)).setCell ⟨w.heap.size, 1, none⟩ (.pointer (some ⟨m, 0, none⟩))) (by simp) fun k hk => by
    have := HS.out k hk
    rw [Below.heap_setCell _ _ _ _ (by show k ≠ w.heap.size; omega), Below.heap_setCell _ _ _ _ (by show k ≠ w.heap.size; omega)])
  have HM3 : Hid (((w2.setCell ⟨w.heap.size, 0, none⟩ (dP p)).setCell ⟨w.heap.size, 1, none⟩ (.pointer (some ⟨m, 0, none⟩))).heap[m]? = some (.cells #[.slice none 0 0, .int .i64 (room : Int)] 104 (0, 0))) := Lib.hid (by
    rw [Below.heap_setCell _ _ _ _ (by show m ≠ w.heap.size; omega), Below.heap_setCell _ _ _ _ (by show m ≠ w.heap.size; omega)]
    exact HM.out)
  have e1 := one_two HX2.out (dP p) (.pointer (some ⟨m, 0, none⟩))
  have k0 := e1.1
  have k1 := e1.2
  have HMB : Hid (bs ≤ m) := Lib.hid (by have := HB.out; omega)
  go_wp2
  refine bodyPost_ret (v := .tuple #[.agg #[dP p, .pointer (some ⟨m, 0, none⟩)], .bool true]) (by simp [results, Tryz.results6, go_sem, k0, k1]) rfl ⟨⟨p, m, S, rfl, HD3.out, HM3.out, HMB.out, HNS.out⟩, HW3.out⟩
end Go.Proofs.YtmfhipjceeijmaaGreatDoor.G

/-
  The examples of chapter 9 over any segment package that keeps its contracts.
-/
namespace Go.Proofs.YtmfhipjceeijmaaGreatDoor.G
open Go.RowKit
open D (dP)
attribute [local go_sem] ext_Bd ext_Bl ext_Bt toList_B add_B size_B get_Bt

theorem cell_but {S : Nat → Prop} {w w' : World} {a : Addr} {u : Value} (h : w.cell? a = some u) (hb : D.But S w w') (hs : ¬ S a.block) : w'.cell? a = some u :=
  cell_same h (hb.block _ (World.block_lt_of_cell? w _ h) hs)
theorem pl_at {W : World} {g : Nat} {cs : Array Value} {t : TypeId} {p e : Int} {v : Value} {o : Nat} (h : W.heap[g]? = some (.cells cs t (0, 0))) (h0 : cs[o]? = some (.int .i64 p)) (h1 : cs[o + 1]? = some (.int .i64 e)) (h2 : cs[o + 2]? = some (.string (B [115]))) (h3 : cs[o + 3]? = some (.int .i64 0)) (h4 : cs[o + 4]? = some (.int .i64 1)) (h5 : cs[o + 5]? = some (.int .i64 1)) (h6 : cs[o + 6]? = some v) :
    At7 W g o (plainE p e) v := by
  have key : ∀ j, W.cell? ⟨g, j, none⟩ = cs[j]? := fun j => by simp [World.cell?, h]
  exact ⟨(key _).trans h0, (key _).trans h1, (key _).trans h2, (key _).trans h3, (key _).trans h4, (key _).trans h5, (key _).trans h6⟩
theorem two_plain {W : World} {g g1 g2 : Nat} {p1 e1 p2 e2 : Int} {t : TypeId} (h : W.heap[g]? = some (.cells #[.int .i64 p1, .int .i64 e1, .string (B [115]), .int .i64 0, .int .i64 1, .int .i64 1, .slice (some ⟨g1, 0, none⟩) 1 1, .int .i64 p2, .int .i64 e2, .string (B [115]), .int .i64 0, .int .i64 1, .int .i64 1, .slice (some ⟨g2, 0, none⟩) 1 1] t (0, 0)))
    (h1 : W.heap[g1]? = some evObj) (h2 : W.heap[g2]? = some evObj) (hp1 : i64B p1) (hp2 : i64B p2) : ReadsR W (.slice (some ⟨g, 0, none⟩) 2 2) [(plainE p1 e1, .slice (some ⟨g1, 0, none⟩) 1 1), (plainE p2 e2, .slice (some ⟨g2, 0, none⟩) 1 1)] := by
  refine ⟨_, 2, rfl, Nat.le_refl _, fun h => (by cases h), fun i hi => ?_⟩
  match i, hi with
  | 0, _ => exact ⟨reads_evObj h1, hp1, _, 0, rfl, pl_at h rfl rfl rfl rfl rfl rfl rfl⟩
  | 1, _ => exact ⟨reads_evObj h2, hp2, _, 0, rfl, pl_at h rfl rfl rfl rfl rfl rfl rfl⟩
theorem one_plain {W : World} {g g1 : Nat} {p1 e1 : Int} {t : TypeId} (h : W.heap[g]? = some (.cells #[.int .i64 p1, .int .i64 e1, .string (B [115]), .int .i64 0, .int .i64 1, .int .i64 1, .slice (some ⟨g1, 0, none⟩) 1 1] t (0, 0)))
    (h1 : W.heap[g1]? = some evObj) (hp1 : i64B p1) : ReadsR W (.slice (some ⟨g, 0, none⟩) 1 1) [(plainE p1 e1, .slice (some ⟨g1, 0, none⟩) 1 1)] := by
  refine ⟨_, 1, rfl, Nat.le_refl _, fun h => (by cases h), fun i hi => ?_⟩
  match i, hi with
  | 0, _ => exact ⟨reads_evObj h1, hp1, _, 0, rfl, pl_at h rfl rfl rfl rfl rfl rfl rfl⟩
theorem but_at {S : Nat → Prop} {w w' : World} {k : Nat} {o : Obj} (h : D.But S w w') (hk : w.heap[k]? = some o) (hs : ¬ S k) : w'.heap[k]? = some o := by
  rw [h.block k (lt_of_block hk) hs]; exact hk
theorem but_low {S : Nat → Prop} {w wr w' : World} (h : Below w.heap.size w wr) (hb : D.But S wr w') (hS : ∀ k, S k → w.heap.size ≤ k) : Below w.heap.size w w' :=
  ⟨hb.os.trans h.os, hb.tape.trans h.tape, hb.output.trans h.output, Nat.le_trans h.size hb.size, fun k hk => (hb.block k (Nat.lt_of_lt_of_le hk h.size) fun hs => by have := hS k hs; omega).trans (h.block k hk)⟩
abbrev Q5 (ga gb : Nat) (d v : Value) (w : World) : Prop := w.cell? ⟨ga, 0, none⟩ = some d ∧ w.cell? ⟨gb, 0, none⟩ = some (.int .i64 5) ∧ w.cell? ⟨gb, 1, none⟩ = some v ∧ w.cell? ⟨gb, 2, none⟩ = some (.bool false)
theorem Q5_below {ga gb : Nat} {d v : Value} {w w' : World} (h : Q5 ga gb d v w) (hb : Below w.heap.size w w') : Q5 ga gb d v w' :=
  ⟨below_keeps hb _ _ h.1, below_keeps hb _ _ h.2.1, below_keeps hb _ _ h.2.2.1, below_keeps hb _ _ h.2.2.2⟩
theorem Q5_but {ga gb : Nat} {d v : Value} {w w' : World} {S : Nat → Prop} (h : Q5 ga gb d v w) (hb : D.But S w w') (ha : ¬ S ga) (hg : ¬ S gb) : Q5 ga gb d v w' :=
  ⟨cell_but h.1 hb ha, cell_but h.2.1 hb hg, cell_but h.2.2.1 hb hg, cell_but h.2.2.2 hb hg⟩
theorem pl_small : ∀ x ∈ ([(plainE 5 1, Value.slice none 0 0), (plainE 6 1, .slice none 0 0)] : List EV), E.Small x.1.b := fun x hx => by
  simp only [List.mem_cons, List.not_mem_nil, or_false] at hx
  rcases hx with rfl | rfl <;> exact plain_small _ _
set_option maxHeartbeats 8000000 in
set_option maxRecDepth 100000 in
theorem shown9_l {C : D.DC} (Z : SC C) (w : World) :
    Calls Tryz.prog 4 #[] w fun x w' => x = .returned (.bool true) ∧ Below w.heap.size w w' := by
  go_enter Tryz.func4, Tryz.ntmps4
  go_wp2_with fail
  refine (begun9_l C (bs := w.heap.size) 1000 w (Nat.le_refl _) (by omega) (by omega)).mono ?_
  rintro x w1 ⟨⟨p, m, S, rfl, hd, -, -, -⟩, hb1⟩
  have HB1 := Lib.hid hb1
  have HD1 := Lib.hid hd
  clear hb1 hd
  go_upto_region 2 with (fail)
  have HA := Lib.hid ((Below.refl w1.heap.size w1).alloc (Nat.le_refl _) (.cells #[dP p, .pointer (some ⟨m, 0, none⟩)] 28))
  have HXA := Lib.hid (heap_alloc_new w1 (.cells #[dP p, .pointer (some ⟨m, 0, none⟩)] 28))
  have hp0 : (w1.alloc (.cells #[dP p, .pointer (some ⟨m, 0, none⟩)] 28)).cell? ⟨w1.heap.size, 0, none⟩ = some (dP p) := by rw [blk9 HXA.out]; rfl
  have HDA := Lib.hid (C.below HD1.out HA.out)
  have HNA : Hid (¬ S w1.heap.size) := Lib.hid fun h => by have := (C.low HD1.out h).2; omega
  have HBA := Lib.hid (HB1.out.trans (HA.out.mono HB1.out.size))
  have hza : w1.heap.size < (w1.alloc (.cells #[dP p, .pointer (some ⟨m, 0, none⟩)] 28)).heap.size := by simp
  clear HA HXA HB1 HD1
  generalize w1.alloc (.cells #[dP p, .pointer (some ⟨m, 0, none⟩)] 28) = wA at *
  generalize w1.heap.size = ga at *
  have HDA2 := Lib.hid (C.keep (w' := wA.drew) HDA.out (Nat.le_refl _) (fun _ _ => rfl))
  have HBA2 : Hid (Below w.heap.size w wA.drew) := Lib.hid ⟨HBA.out.os, HBA.out.tape, HBA.out.output, HBA.out.size, HBA.out.block⟩
  have hza2 : ga < wA.drew.heap.size := hza
  refine wp_region_held_drew (S := fun w' => w'.cell? ⟨ga, 0, none⟩ = some (dP p)) (by kernel_rfl) ?_ (fun hHeld => ?_)
  · exact hp0
  refine take_wanted (i := 0) (v := ?_) rfl (by kernel_rfl) (by kernel_rfl) (by kernel_rfl) (fun _ _ _ h => h) (by rfl) ?_ (by assumption) ?_
  rotate_left
  · intro w hSw
    (try dsimp only at hSw)
    go_simp
    (try with_reducible rfl)
  simp only [Act.put, List.setIfInBounds_toArray, List.set_cons_zero, List.set_cons_succ]
  refine take_wanted (i := 1) (v := ?_) rfl (by kernel_rfl) (by kernel_rfl) (by kernel_rfl) (fun _ _ _ h => h) (by rfl) ?_ (by assumption) ?_
  rotate_left
  · intro w hSw
    (try dsimp only at hSw)
    go_simp
    (try with_reducible rfl)
  simp only [Act.put, List.setIfInBounds_toArray, List.set_cons_zero, List.set_cons_succ]
  refine take_wanted (i := 2) (v := ?_) rfl (by kernel_rfl) (by kernel_rfl) (by kernel_rfl) (fun _ _ _ h => h) (by rfl) ?_ (by assumption) ?_
  rotate_left
  · intro w hSw
    (try dsimp only at hSw)
    go_simp
    (try with_reducible rfl)
  simp only [Act.put, List.setIfInBounds_toArray, List.set_cons_zero, List.set_cons_succ]
  refine take_wanted (i := 3) (v := ?_) rfl (by kernel_rfl) (by kernel_rfl) (by kernel_rfl) (fun _ _ _ h => h) (by rfl) ?_ (by assumption) ?_
  rotate_left
  · intro w hSw
    (try dsimp only at hSw)
    go_simp
    (try with_reducible rfl)
  simp only [Act.put, List.setIfInBounds_toArray, List.set_cons_zero, List.set_cons_succ]
  refine take_wanted (i := 4) (v := ?_) rfl (by kernel_rfl) (by kernel_rfl) (by kernel_rfl) (fun _ _ _ h => h) (by rfl) ?_ (by assumption) ?_
  rotate_left
  · intro w hSw
    (try dsimp only at hSw)
    go_simp
    (try with_reducible rfl)
  simp only [Act.put, List.setIfInBounds_toArray, List.set_cons_zero, List.set_cons_succ]
  refine take_only (i := 5) (by kernel_rfl) rfl (by rfl) (fun K hK => ?_)
  go_simp
  go_at_call 13
  refine (Z.create 1 5 0 _ HDA2.out (D.inv_nil _) (by omega) Named.nil (by omega) (by omega) ⟨by omega, by omega⟩ shown_create).mono ?_
  rintro x w2 ⟨rfl, ⟨S2, hd2, hg2⟩, hb2⟩
  refine hK.out _ _ ?_ (fun hHeld => ?_)
  · exact cell_but (w := wA.drew) hp0 hb2 HNA.out
  clear hK K
  have HD2 := Lib.hid hd2
  have HN2 : Hid (¬ S2 ga) := Lib.hid fun h => by
    rcases hg2 ga h with h | h
    · exact HNA.out h
    · omega
  have HB2 : Hid (Below w.heap.size w w2) := Lib.hid (but_low HBA2.out hb2 fun k hk => (C.low HDA2.out hk).1)
  have hza3 : ga < w2.heap.size := Nat.lt_of_lt_of_le hza2 hb2.size
  clear hd2 hg2 hb2 HDA2 HBA2 HNA hza2 hza HDA HBA hp0
  refine take_wanted (i := 6) (v := ?_) rfl (by kernel_rfl) (by kernel_rfl) (by kernel_rfl) (fun _ _ _ h => h) (by rfl) ?_ (by assumption) ?_
  rotate_left
  · intro w hSw
    (try dsimp only at hSw)
    go_simp
    (try with_reducible rfl)
  simp only [Act.put, List.setIfInBounds_toArray, List.set_cons_zero, List.set_cons_succ]
  refine take_wanted (i := 7) (v := ?_) rfl (by kernel_rfl) (by kernel_rfl) (by kernel_rfl) (fun _ _ _ h => h) (by rfl) ?_ (by assumption) ?_
  rotate_left
  · intro w hSw
    (try dsimp only at hSw)
    go_simp
    (try with_reducible rfl)
  simp only [Act.put, List.setIfInBounds_toArray, List.set_cons_zero, List.set_cons_succ]
  refine take_wanted (i := 8) (v := ?_) rfl (by kernel_rfl) (by kernel_rfl) (by kernel_rfl) (fun _ _ _ h => h) (by rfl) ?_ (by assumption) ?_
  rotate_left
  · intro w hSw
    (try dsimp only at hSw)
    go_simp
    (try with_reducible rfl)
  simp only [Act.put, List.setIfInBounds_toArray, List.set_cons_zero, List.set_cons_succ]
  refine take_wanted (i := 9) (v := ?_) rfl (by kernel_rfl) (by kernel_rfl) (by kernel_rfl) (fun _ _ _ h => h) (by rfl) ?_ (by assumption) ?_
  rotate_left
  · intro w hSw
    (try dsimp only at hSw)
    go_simp
    (try with_reducible rfl)
  simp only [Act.put, List.setIfInBounds_toArray, List.set_cons_zero, List.set_cons_succ]
  refine take_wanted (i := 10) (v := ?_) rfl (by kernel_rfl) (by kernel_rfl) (by kernel_rfl) (fun _ _ _ h => h) (by rfl) ?_ (by assumption) ?_
  rotate_left
  · intro w hSw
    (try dsimp only at hSw)
    go_simp
    (try with_reducible rfl)
  simp only [Act.put, List.setIfInBounds_toArray, List.set_cons_zero, List.set_cons_succ]
  refine take_only (i := 11) (by kernel_rfl) rfl (by rfl) (fun K hK => ?_)
  go_simp
  go_at_call 15
  refine (plain9_h 5 1 w2).mono ?_
  rintro x w3 ⟨rfl, ho3, hb3⟩
  refine hK.out _ _ ?_ (fun hHeld => ?_)
  · exact below_keeps hb3 _ _ hHeld
  clear hK K
  refine take_only (i := 12) (by kernel_rfl) rfl (by rfl) (fun K hK => ?_)
  go_simp
  go_at_call 15
  refine (plain9_h 6 1 w3).mono ?_
  rintro x w4 ⟨rfl, ho4, hb4⟩
  refine hK.out _ _ ?_ (fun hHeld => ?_)
  · exact below_keeps hb4 _ _ hHeld
  clear hK K
  dsimp only [enV, plainE]
  refine take_only (i := 13) (by kernel_rfl) rfl (by rfl) (fun K hK => ?_)
  go_simp
  
  refine hK.out _ _ ?_ (fun hHeld => ?_)
  · exact below_keeps ((Below.refl w4.heap.size w4).alloc (Nat.le_refl _) _) _ _ hHeld
  clear hK K
  have hrow := heap_alloc_new w4 (.cells #[.int .i64 5, .int .i64 1, .string (B [115]), .int .i64 0, .int .i64 1, .int .i64 1, .slice (some ⟨w2.heap.size + 1, 0, none⟩) 1 1, .int .i64 6, .int .i64 1, .string (B [115]), .int .i64 0, .int .i64 1, .int .i64 1, .slice (some ⟨w3.heap.size + 1, 0, none⟩) 1 1] 53)
  have hal : Below w4.heap.size w4 (w4.alloc (.cells #[.int .i64 5, .int .i64 1, .string (B [115]), .int .i64 0, .int .i64 1, .int .i64 1, .slice (some ⟨w2.heap.size + 1, 0, none⟩) 1 1, .int .i64 6, .int .i64 1, .string (B [115]), .int .i64 0, .int .i64 1, .int .i64 1, .slice (some ⟨w3.heap.size + 1, 0, none⟩) 1 1] 53)) := (Below.refl _ _).alloc (Nat.le_refl _) _
  have hl3 := lt_of_block ho3
  have hl4 := lt_of_block ho4
  have ho3b : (w4.alloc (.cells #[.int .i64 5, .int .i64 1, .string (B [115]), .int .i64 0, .int .i64 1, .int .i64 1, .slice (some ⟨w2.heap.size + 1, 0, none⟩) 1 1, .int .i64 6, .int .i64 1, .string (B [115]), .int .i64 0, .int .i64 1, .int .i64 1, .slice (some ⟨w3.heap.size + 1, 0, none⟩) 1 1] 53)).heap[w2.heap.size + 1]? = some evObj := (hal.block _ (Nat.lt_of_lt_of_le hl3 hb4.size)).trans ((hb4.block _ hl3).trans ho3)
  have ho4b : (w4.alloc (.cells #[.int .i64 5, .int .i64 1, .string (B [115]), .int .i64 0, .int .i64 1, .int .i64 1, .slice (some ⟨w2.heap.size + 1, 0, none⟩) 1 1, .int .i64 6, .int .i64 1, .string (B [115]), .int .i64 0, .int .i64 1, .int .i64 1, .slice (some ⟨w3.heap.size + 1, 0, none⟩) 1 1] 53)).heap[w3.heap.size + 1]? = some evObj := (hal.block _ hl4).trans ho4
  have h23 := hb3.size
  have h34 := hb4.size
  have hlow : ∀ k, w2.heap.size ≤ k → ¬ S2 k := fun k hk hs => by have := (C.low HD2.out hs).2; omega
  have HRD : Hid (∀ w', D.But S2 (w4.alloc (.cells #[.int .i64 5, .int .i64 1, .string (B [115]), .int .i64 0, .int .i64 1, .int .i64 1, .slice (some ⟨w2.heap.size + 1, 0, none⟩) 1 1, .int .i64 6, .int .i64 1, .string (B [115]), .int .i64 0, .int .i64 1, .int .i64 1, .slice (some ⟨w3.heap.size + 1, 0, none⟩) 1 1] 53)) w' → ReadsR w' (.slice (some ⟨w4.heap.size, 0, none⟩) 2 2) [(plainE 5 1, .slice (some ⟨w2.heap.size + 1, 0, none⟩) 1 1), (plainE 6 1, .slice (some ⟨w3.heap.size + 1, 0, none⟩) 1 1)]) := Lib.hid fun w' hb => two_plain (but_at hb hrow (hlow _ (by omega))) (but_at hb ho3b (hlow _ (by omega))) (but_at hb ho4b (hlow _ (by omega))) ⟨by omega, by omega⟩ ⟨by omega, by omega⟩
  have HD5 := Lib.hid (C.below (C.below (C.below HD2.out hb3) hb4) hal)
  have HB5 : Hid (Below w.heap.size w (w4.alloc (.cells #[.int .i64 5, .int .i64 1, .string (B [115]), .int .i64 0, .int .i64 1, .int .i64 1, .slice (some ⟨w2.heap.size + 1, 0, none⟩) 1 1, .int .i64 6, .int .i64 1, .string (B [115]), .int .i64 0, .int .i64 1, .int .i64 1, .slice (some ⟨w3.heap.size + 1, 0, none⟩) 1 1] 53))) := Lib.hid (by
    have b3 := HB2.out.trans (hb3.mono HB2.out.size)
    have b4 := b3.trans (hb4.mono b3.size)
    exact b4.trans (hal.mono b4.size))
  have hza4 : ga < (w4.alloc (.cells #[.int .i64 5, .int .i64 1, .string (B [115]), .int .i64 0, .int .i64 1, .int .i64 1, .slice (some ⟨w2.heap.size + 1, 0, none⟩) 1 1, .int .i64 6, .int .i64 1, .string (B [115]), .int .i64 0, .int .i64 1, .int .i64 1, .slice (some ⟨w3.heap.size + 1, 0, none⟩) 1 1] 53)).heap.size := by have := hal.size; omega
  have HPL : Hid (∀ x ∈ ([(plainE 5 1, .slice (some ⟨w2.heap.size + 1, 0, none⟩) 1 1), (plainE 6 1, .slice (some ⟨w3.heap.size + 1, 0, none⟩) 1 1)] : List EV), E.Small x.1.b) := Lib.hid fun x hx => by
    simp only [List.mem_cons, List.not_mem_nil, or_false] at hx
    rcases hx with rfl | rfl <;> exact plain_small _ _
  have HADD := Lib.hid (Z.add 1 [(plainE 5 1, .slice (some ⟨w2.heap.size + 1, 0, none⟩) 1 1), (plainE 6 1, .slice (some ⟨w3.heap.size + 1, 0, none⟩) 1 1)] _ 0 _ HD5.out shown_inv0 (by omega) (named_one (by omega) (by omega) _) (by omega) (by omega) HRD.out (by simp) HPL.out shown_add)
  clear hrow hal hl3 hl4 ho3b ho4b h23 h34 hlow HRD HPL ho3 ho4 hb3 hb4 HB2 HD2 hza3
  generalize w4.alloc (.cells #[.int .i64 5, .int .i64 1, .string (B [115]), .int .i64 0, .int .i64 1, .int .i64 1, .slice (some ⟨w2.heap.size + 1, 0, none⟩) 1 1, .int .i64 6, .int .i64 1, .string (B [115]), .int .i64 0, .int .i64 1, .int .i64 1, .slice (some ⟨w3.heap.size + 1, 0, none⟩) 1 1] 53) = w5 at *
  refine take_only (i := 14) (by kernel_rfl) rfl (by rfl) (fun K hK => ?_)
  go_simp
  go_at_call 14
  refine (HADD.out).mono ?_
  rintro x w6 ⟨rfl, ⟨S6, hd6, hg6⟩, hb6⟩
  refine hK.out _ _ ?_ (fun hHeld => ?_)
  · exact cell_but hHeld hb6 HN2.out
  clear hK K
  have HD6 := Lib.hid hd6
  have HN6 : Hid (¬ S6 ga) := Lib.hid fun h => by
    rcases hg6 ga h with h | h
    · exact HN2.out h
    · omega
  have HB6 : Hid (Below w.heap.size w w6) := Lib.hid (but_low HB5.out hb6 fun k hk => (C.low HD5.out hk).1)
  have hza6 : ga < w6.heap.size := Nat.lt_of_lt_of_le hza4 hb6.size
  clear hd6 hg6 hb6 HD5 HB5 HN2 hza4 HADD
  refine take_wanted (i := 15) (v := ?_) rfl (by kernel_rfl) (by kernel_rfl) (by kernel_rfl) (fun _ _ _ h => h) (by rfl) ?_ (by assumption) ?_
  rotate_left
  · intro w hSw
    (try dsimp only at hSw)
    go_simp
    (try with_reducible rfl)
  simp only [Act.put, List.setIfInBounds_toArray, List.set_cons_zero, List.set_cons_succ]
  refine take_wanted (i := 16) (v := ?_) rfl (by kernel_rfl) (by kernel_rfl) (by kernel_rfl) (fun _ _ _ h => h) (by rfl) ?_ (by assumption) ?_
  rotate_left
  · intro w hSw
    (try dsimp only at hSw)
    go_simp
    (try with_reducible rfl)
  simp only [Act.put, List.setIfInBounds_toArray, List.set_cons_zero, List.set_cons_succ]
  refine wpAnyH_done (by kernel_rfl) ?_ _
  go_wp2_with fail
  refine (Z.load 1 0 5 p2 false HD6.out shown_inv2 (by omega) (named_one (by omega) (by omega) _) (by omega) shown_load).mono ?_
  rintro x w7 ⟨⟨v, xs, rfl, hxs, hrd⟩, hb7⟩
  have hxl : xs.length = 2 := by rw [← ensOf_len, hxs]; rfl
  obtain ⟨a, cap, hv, -⟩ := hrd w7 (D.But.refl _ _)
  rw [hxl] at hv
  subst hv
  have HD7 := Lib.hid (C.below HD6.out hb7)
  have HB7 := Lib.hid (HB6.out.trans (hb7.mono HB6.out.size))
  have hp7 := below_keeps hb7 _ _ hHeld
  have HN7 := Lib.hid HN6.out
  clear hrd hxs hxl hb7 HD6 HB6 hza6 HN6
  go_upto_region 5 with (fail)
  have hal : Below w7.heap.size w7 (w7.alloc (.cells #[.int .i64 ((5 : Nat) : Int), .slice a 2 cap, .bool false] 38)) := (Below.refl _ _).alloc (Nat.le_refl _) _
  have hnew := heap_alloc_new w7 (.cells #[.int .i64 ((5 : Nat) : Int), .slice a 2 cap, .bool false] 38)
  have hq8 : Q5 ga w7.heap.size (dP p) (.slice a 2 cap) (w7.alloc (.cells #[.int .i64 ((5 : Nat) : Int), .slice a 2 cap, .bool false] 38)) := ⟨below_keeps hal _ _ hp7, by rw [blk9 hnew]; rfl, by rw [blk9 hnew]; rfl, by rw [blk9 hnew]; rfl⟩
  have HN8 : Hid (¬ S6 w7.heap.size) := Lib.hid fun h => by have := (C.low HD7.out h).2; omega
  have HD8 := Lib.hid (C.keep (w' := (w7.alloc (.cells #[.int .i64 ((5 : Nat) : Int), .slice a 2 cap, .bool false] 38)).drew) (C.below HD7.out hal) (Nat.le_refl _) (fun _ _ => rfl))
  have hb8 := HB7.out.trans (hal.mono HB7.out.size)
  have HB8 : Hid (Below w.heap.size w (w7.alloc (.cells #[.int .i64 ((5 : Nat) : Int), .slice a 2 cap, .bool false] 38)).drew) := Lib.hid ⟨hb8.os, hb8.tape, hb8.output, hb8.size, hb8.block⟩
  clear hal hnew hb8 hp7 HD7 HB7
  generalize w7.alloc (.cells #[.int .i64 ((5 : Nat) : Int), .slice a 2 cap, .bool false] 38) = w8 at *
  generalize w7.heap.size = gb at *
  refine wp_region_held_drew (S := fun w' => w'.cell? ⟨ga, 0, none⟩ = some (dP p) ∧ w'.cell? ⟨gb, 0, none⟩ = some (.int .i64 5) ∧ w'.cell? ⟨gb, 1, none⟩ = some (.slice a 2 cap) ∧ w'.cell? ⟨gb, 2, none⟩ = some (.bool false)) (by kernel_rfl) ?_ (fun hHeld => ?_)
  · exact hq8
  generalize w8.drew = w8d at *
  refine take_wanted (i := 0) (v := ?_) rfl (by kernel_rfl) (by kernel_rfl) (by kernel_rfl) (fun _ _ _ h => h) (by rfl) ?_ (by assumption) ?_
  rotate_left
  · intro w hSw
    (try dsimp only at hSw)
    go_simp
    (try with_reducible rfl)
  simp only [Act.put, List.setIfInBounds_toArray, List.set_cons_zero, List.set_cons_succ]
  refine take_wanted (i := 1) (v := ?_) rfl (by kernel_rfl) (by kernel_rfl) (by kernel_rfl) (fun _ _ _ h => h) (by rfl) ?_ (by assumption) ?_
  rotate_left
  · intro w hSw
    (try dsimp only at hSw)
    go_simp
    (try with_reducible rfl)
  simp only [Act.put, List.setIfInBounds_toArray, List.set_cons_zero, List.set_cons_succ]
  refine take_wanted (i := 2) (v := ?_) rfl (by kernel_rfl) (by kernel_rfl) (by kernel_rfl) (fun _ _ _ h => h) (by rfl) ?_ (by assumption) ?_
  rotate_left
  · intro w hSw
    (try dsimp only at hSw)
    go_simp
    (try with_reducible rfl)
  simp only [Act.put, List.setIfInBounds_toArray, List.set_cons_zero, List.set_cons_succ]
  refine take_wanted (i := 3) (v := ?_) rfl (by kernel_rfl) (by kernel_rfl) (by kernel_rfl) (fun _ _ _ h => h) (by rfl) ?_ (by assumption) ?_
  rotate_left
  · intro w hSw
    (try dsimp only at hSw)
    go_simp
    (try with_reducible rfl)
  simp only [Act.put, List.setIfInBounds_toArray, List.set_cons_zero, List.set_cons_succ]
  refine take_wanted (i := 4) (v := ?_) rfl (by kernel_rfl) (by kernel_rfl) (by kernel_rfl) (fun _ _ _ h => h) (by rfl) ?_ (by assumption) ?_
  rotate_left
  · intro w hSw
    (try dsimp only at hSw)
    go_simp
    (try with_reducible rfl)
  simp only [Act.put, List.setIfInBounds_toArray, List.set_cons_zero, List.set_cons_succ]
  refine take_wanted (i := 5) (v := ?_) rfl (by kernel_rfl) (by kernel_rfl) (by kernel_rfl) (fun _ _ _ h => h) (by rfl) ?_ (by assumption) ?_
  rotate_left
  · intro w hSw
    (try dsimp only at hSw)
    go_simp
    (try with_reducible rfl)
  simp only [Act.put, List.setIfInBounds_toArray, List.set_cons_zero, List.set_cons_succ]
  refine take_wanted (i := 6) (v := ?_) rfl (by kernel_rfl) (by kernel_rfl) (by kernel_rfl) (fun _ _ _ h => h) (by rfl) ?_ (by assumption) ?_
  rotate_left
  · intro w hSw
    (try dsimp only at hSw)
    go_simp
    (try with_reducible rfl)
  simp only [Act.put, List.setIfInBounds_toArray, List.set_cons_zero, List.set_cons_succ]
  refine take_wanted (i := 7) (v := ?_) rfl (by kernel_rfl) (by kernel_rfl) (by kernel_rfl) (fun _ _ _ h => h) (by rfl) ?_ (by assumption) ?_
  rotate_left
  · intro w hSw
    (try dsimp only at hSw)
    go_simp
    (try with_reducible rfl)
  simp only [Act.put, List.setIfInBounds_toArray, List.set_cons_zero, List.set_cons_succ]
  refine take_wanted (i := 8) (v := ?_) rfl (by kernel_rfl) (by kernel_rfl) (by kernel_rfl) (fun _ _ _ h => h) (by rfl) ?_ (by assumption) ?_
  rotate_left
  · intro w hSw
    (try dsimp only at hSw)
    go_simp
    (try with_reducible rfl)
  simp only [Act.put, List.setIfInBounds_toArray, List.set_cons_zero, List.set_cons_succ]
  refine take_wanted (i := 9) (v := ?_) rfl (by kernel_rfl) (by kernel_rfl) (by kernel_rfl) (fun _ _ _ h => h) (by rfl) ?_ (by assumption) ?_
  rotate_left
  · intro w hSw
    (try dsimp only at hSw)
    go_simp
    (try with_reducible rfl)
  simp only [Act.put, List.setIfInBounds_toArray, List.set_cons_zero, List.set_cons_succ]
  refine take_wanted (i := 10) (v := ?_) rfl (by kernel_rfl) (by kernel_rfl) (by kernel_rfl) (fun _ _ _ h => h) (by rfl) ?_ (by assumption) ?_
  rotate_left
  · intro w hSw
    (try dsimp only at hSw)
    go_simp
    (try with_reducible rfl)
  simp only [Act.put, List.setIfInBounds_toArray, List.set_cons_zero, List.set_cons_succ]
  refine take_wanted (i := 11) (v := ?_) rfl (by kernel_rfl) (by kernel_rfl) (by kernel_rfl) (fun _ _ _ h => h) (by rfl) ?_ (by assumption) ?_
  rotate_left
  · intro w hSw
    (try dsimp only at hSw)
    go_simp
    (try with_reducible rfl)
  simp only [Act.put, List.setIfInBounds_toArray, List.set_cons_zero, List.set_cons_succ]
  refine take_wanted (i := 12) (v := ?_) rfl (by kernel_rfl) (by kernel_rfl) (by kernel_rfl) (fun _ _ _ h => h) (by rfl) ?_ (by assumption) ?_
  rotate_left
  · intro w hSw
    (try dsimp only at hSw)
    go_simp
    (try with_reducible rfl)
  simp only [Act.put, List.setIfInBounds_toArray, List.set_cons_zero, List.set_cons_succ]
  refine take_wanted (i := 13) (v := ?_) rfl (by kernel_rfl) (by kernel_rfl) (by kernel_rfl) (fun _ _ _ h => h) (by rfl) ?_ (by assumption) ?_
  rotate_left
  · intro w hSw
    (try dsimp only at hSw)
    go_simp
    (try with_reducible rfl)
  simp only [Act.put, List.setIfInBounds_toArray, List.set_cons_zero, List.set_cons_succ]
  refine take_wanted (i := 14) (v := ?_) rfl (by kernel_rfl) (by kernel_rfl) (by kernel_rfl) (fun _ _ _ h => h) (by rfl) ?_ (by assumption) ?_
  rotate_left
  · intro w hSw
    (try dsimp only at hSw)
    go_simp
    (try with_reducible rfl)
  simp only [Act.put, List.setIfInBounds_toArray, List.set_cons_zero, List.set_cons_succ]
  refine take_wanted (i := 15) (v := ?_) rfl (by kernel_rfl) (by kernel_rfl) (by kernel_rfl) (fun _ _ _ h => h) (by rfl) ?_ (by assumption) ?_
  rotate_left
  · intro w hSw
    (try dsimp only at hSw)
    go_simp
    (try with_reducible rfl)
  simp only [Act.put, List.setIfInBounds_toArray, List.set_cons_zero, List.set_cons_succ]
  refine take_wanted (i := 16) (v := ?_) rfl (by kernel_rfl) (by kernel_rfl) (by kernel_rfl) (fun _ _ _ h => h) (by rfl) ?_ (by assumption) ?_
  rotate_left
  · intro w hSw
    (try dsimp only at hSw)
    go_simp
    (try with_reducible rfl)
  simp only [Act.put, List.setIfInBounds_toArray, List.set_cons_zero, List.set_cons_succ]
  refine take_wanted (i := 17) (v := ?_) rfl (by kernel_rfl) (by kernel_rfl) (by kernel_rfl) (fun _ _ _ h => h) (by rfl) ?_ (by assumption) ?_
  rotate_left
  · intro w hSw
    (try dsimp only at hSw)
    go_simp
    (try with_reducible rfl)
  simp only [Act.put, List.setIfInBounds_toArray, List.set_cons_zero, List.set_cons_succ]
  refine take_wanted (i := 18) (v := ?_) rfl (by kernel_rfl) (by kernel_rfl) (by kernel_rfl) (fun _ _ _ h => h) (by rfl) ?_ (by assumption) ?_
  rotate_left
  · intro w hSw
    (try dsimp only at hSw)
    go_simp
    (try with_reducible rfl)
  simp only [Act.put, List.setIfInBounds_toArray, List.set_cons_zero, List.set_cons_succ]
  refine take_wanted (i := 19) (v := ?_) rfl (by kernel_rfl) (by kernel_rfl) (by kernel_rfl) (fun _ _ _ h => h) (by rfl) ?_ (by assumption) ?_
  rotate_left
  · intro w hSw
    (try dsimp only at hSw)
    go_simp
    (try with_reducible rfl)
  simp only [Act.put, List.setIfInBounds_toArray, List.set_cons_zero, List.set_cons_succ]
  refine take_wanted (i := 20) (v := ?_) rfl (by kernel_rfl) (by kernel_rfl) (by kernel_rfl) (fun _ _ _ h => h) (by rfl) ?_ (by assumption) ?_
  rotate_left
  · intro w hSw
    (try dsimp only at hSw)
    go_simp
    (try with_reducible rfl)
  simp only [Act.put, List.setIfInBounds_toArray, List.set_cons_zero, List.set_cons_succ]
  refine take_only (i := 21) (by kernel_rfl) rfl (by rfl) (fun K hK => ?_)
  go_simp
  go_at_call 15
  refine (plain9_h 8 1 w8d).mono ?_
  rintro x w9 ⟨rfl, ho9, hb9⟩
  refine hK.out _ _ ?_ (fun hHeld => ?_)
  · exact Q5_below hHeld hb9
  clear hK K
  dsimp only [enV, plainE]
  refine take_only (i := 22) (by kernel_rfl) rfl (by rfl) (fun K hK => ?_)
  go_simp
  
  refine hK.out _ _ ?_ (fun hHeld => ?_)
  · exact Q5_below hHeld ((Below.refl w9.heap.size w9).alloc (Nat.le_refl _) _)
  clear hK K
  have hrow := heap_alloc_new w9 (.cells #[.int .i64 8, .int .i64 1, .string (B [115]), .int .i64 0, .int .i64 1, .int .i64 1, .slice (some ⟨w8d.heap.size + 1, 0, none⟩) 1 1] 53)
  have hal : Below w9.heap.size w9 (w9.alloc (.cells #[.int .i64 8, .int .i64 1, .string (B [115]), .int .i64 0, .int .i64 1, .int .i64 1, .slice (some ⟨w8d.heap.size + 1, 0, none⟩) 1 1] 53)) := (Below.refl _ _).alloc (Nat.le_refl _) _
  have hl9 := lt_of_block ho9
  have ho9b : (w9.alloc (.cells #[.int .i64 8, .int .i64 1, .string (B [115]), .int .i64 0, .int .i64 1, .int .i64 1, .slice (some ⟨w8d.heap.size + 1, 0, none⟩) 1 1] 53)).heap[w8d.heap.size + 1]? = some evObj := (hal.block _ hl9).trans ho9
  have h89 := hb9.size
  have hlow : ∀ k, w8d.heap.size ≤ k → ¬ S6 k := fun k hk hs => by have := (C.low HD8.out hs).2; omega
  have HRD : Hid (∀ w', D.But S6 (w9.alloc (.cells #[.int .i64 8, .int .i64 1, .string (B [115]), .int .i64 0, .int .i64 1, .int .i64 1, .slice (some ⟨w8d.heap.size + 1, 0, none⟩) 1 1] 53)) w' → ReadsR w' (.slice (some ⟨w9.heap.size, 0, none⟩) 1 1) [(plainE 8 1, .slice (some ⟨w8d.heap.size + 1, 0, none⟩) 1 1)]) := Lib.hid fun w' hb => one_plain (but_at hb hrow (hlow _ (by omega))) (but_at hb ho9b (hlow _ (by omega))) ⟨by omega, by omega⟩
  have HD9 := Lib.hid (C.below (C.below HD8.out hb9) hal)
  have HB9 : Hid (Below w.heap.size w (w9.alloc (.cells #[.int .i64 8, .int .i64 1, .string (B [115]), .int .i64 0, .int .i64 1, .int .i64 1, .slice (some ⟨w8d.heap.size + 1, 0, none⟩) 1 1] 53))) := Lib.hid (by
    have b9 := HB8.out.trans (hb9.mono HB8.out.size)
    exact b9.trans (hal.mono b9.size))
  have HPL : Hid (∀ x ∈ ([(plainE 8 1, .slice (some ⟨w8d.heap.size + 1, 0, none⟩) 1 1)] : List EV), E.Small x.1.b) := Lib.hid fun x hx => by
    rw [List.mem_singleton] at hx
    subst hx
    exact plain_small _ _
  have HADD := Lib.hid (Z.add 1 [(plainE 8 1, .slice (some ⟨w8d.heap.size + 1, 0, none⟩) 1 1)] _ 11 _ HD9.out shown_inv2 (by omega) (named_one (by omega) (by omega) _) (by omega) (by omega) HRD.out (by simp) HPL.out shown_gap)
  clear hrow hal hl9 ho9b h89 hlow HRD HPL ho9 hb9 HB8 HD8
  generalize w9.alloc (.cells #[.int .i64 8, .int .i64 1, .string (B [115]), .int .i64 0, .int .i64 1, .int .i64 1, .slice (some ⟨w8d.heap.size + 1, 0, none⟩) 1 1] 53) = w10 at *
  refine take_only (i := 23) (by kernel_rfl) rfl (by rfl) (fun K hK => ?_)
  go_simp
  go_at_call 14
  refine (HADD.out).mono ?_
  rintro x w11 ⟨rfl, -, hb11⟩
  refine hK.out _ _ ?_ (fun hHeld => ?_)
  · exact Q5_but hHeld hb11 HN7.out HN8.out
  clear hK K
  have HB11 : Hid (Below w.heap.size w w11) := Lib.hid (but_low HB9.out hb11 fun k hk => (C.low HD9.out hk).1)
  clear hb11 HD9 HB9 HADD
  refine take_wanted (i := 24) (v := ?_) rfl (by kernel_rfl) (by kernel_rfl) (by kernel_rfl) (fun _ _ _ h => h) (by rfl) ?_ (by assumption) ?_
  rotate_left
  · intro w hSw
    (try dsimp only at hSw)
    go_simp
    (try with_reducible rfl)
  simp only [Act.put, List.setIfInBounds_toArray, List.set_cons_zero, List.set_cons_succ]
  refine take_wanted (i := 25) (v := ?_) rfl (by kernel_rfl) (by kernel_rfl) (by kernel_rfl) (fun _ _ _ h => h) (by rfl) ?_ (by assumption) ?_
  rotate_left
  · intro w hSw
    (try dsimp only at hSw)
    go_simp
    (try with_reducible rfl)
  simp only [Act.put, List.setIfInBounds_toArray, List.set_cons_zero, List.set_cons_succ]
  refine take_wanted (i := 26) (v := ?_) rfl (by kernel_rfl) (by kernel_rfl) (by kernel_rfl) (fun _ _ _ h => h) (by rfl) ?_ (by assumption) ?_
  rotate_left
  · intro w hSw
    (try dsimp only at hSw)
    go_simp
    (try with_reducible rfl)
  simp only [Act.put, List.setIfInBounds_toArray, List.set_cons_zero, List.set_cons_succ]
  have HNM := Lib.hid (Z.name (w := w11) 7 ⟨by omega, by omega⟩ (.inr (by omega)))
  rw [name7] at HNM
  refine take_only (i := 27) (by kernel_rfl) rfl (by rfl) (fun K hK => ?_)
  go_simp
  go_at_call 16
  refine (HNM.out).mono ?_
  rintro x w12 ⟨rfl, hb12⟩
  refine hK.out _ _ ?_ (fun hHeld => ?_)
  · exact Q5_below hHeld hb12
  clear hK K
  have HB12 := Lib.hid (HB11.out.trans (hb12.mono HB11.out.size))
  clear hb12 HB11 HNM
  refine take_wanted (i := 28) (v := ?_) rfl (by kernel_rfl) (by kernel_rfl) (by kernel_rfl) (fun _ _ _ h => h) (by rfl) ?_ (by assumption) ?_
  rotate_left
  · intro w hSw
    (try dsimp only at hSw)
    go_simp
    (try with_reducible rfl)
  simp only [Act.put, List.setIfInBounds_toArray, List.set_cons_zero, List.set_cons_succ]
  refine take_wanted (i := 29) (v := ?_) rfl (by kernel_rfl) (by kernel_rfl) (by kernel_rfl) (fun _ _ _ h => h) (by rfl) ?_ (by assumption) ?_
  rotate_left
  · intro w hSw
    (try dsimp only at hSw)
    go_simp
    (try with_reducible rfl)
  simp only [Act.put, List.setIfInBounds_toArray, List.set_cons_zero, List.set_cons_succ]
  refine take_wanted (i := 30) (v := ?_) rfl (by kernel_rfl) (by kernel_rfl) (by kernel_rfl) (fun _ _ _ h => h) (by rfl) ?_ (by assumption) ?_
  rotate_left
  · intro w hSw
    (try dsimp only at hSw)
    go_simp
    (try with_reducible rfl)
  simp only [Act.put, List.setIfInBounds_toArray, List.set_cons_zero, List.set_cons_succ]
  have HNU := Lib.hid (Z.number (w := w12) [115, 101, 103, 45, 55] (by simp) (.inr ⟨7, by omega, by omega, by rw [name_small (by omega) (by omega)]; rfl⟩))
  rw [num7] at HNU
  refine take_only (i := 31) (by kernel_rfl) rfl (by rfl) (fun K hK => ?_)
  go_simp
  go_at_call 17
  refine (HNU.out).mono ?_
  rintro x w13 ⟨rfl, hb13⟩
  refine hK.out _ _ ?_ (fun hHeld => ?_)
  · exact Q5_below hHeld hb13
  clear hK K
  have HB13 := Lib.hid (HB12.out.trans (hb13.mono HB12.out.size))
  clear hb13 HB12 HNU
  refine take_wanted (i := 32) (v := ?_) rfl (by kernel_rfl) (by kernel_rfl) (by kernel_rfl) (fun _ _ _ h => h) (by rfl) ?_ (by assumption) ?_
  rotate_left
  · intro w hSw
    (try dsimp only at hSw)
    go_simp
    (try with_reducible rfl)
  simp only [Act.put, List.setIfInBounds_toArray, List.set_cons_zero, List.set_cons_succ]
  refine take_wanted (i := 33) (v := ?_) rfl (by kernel_rfl) (by kernel_rfl) (by kernel_rfl) (fun _ _ _ h => h) (by rfl) ?_ (by assumption) ?_
  rotate_left
  · intro w hSw
    (try dsimp only at hSw)
    go_simp
    (try with_reducible rfl)
  simp only [Act.put, List.setIfInBounds_toArray, List.set_cons_zero, List.set_cons_succ]
  refine take_wanted (i := 34) (v := ?_) rfl (by kernel_rfl) (by kernel_rfl) (by kernel_rfl) (fun _ _ _ h => h) (by rfl) ?_ (by assumption) ?_
  rotate_left
  · intro w hSw
    (try dsimp only at hSw)
    go_simp
    (try with_reducible rfl)
  simp only [Act.put, List.setIfInBounds_toArray, List.set_cons_zero]
  refine wpAnyH_done (by kernel_rfl) ?_ _
  go_wp2
  go_ret
  exact ⟨rfl, HB13.out⟩
end Go.Proofs.YtmfhipjceeijmaaGreatDoor.G

/-
  What chapter 9's laws over lists of entries share: the first place, sizes, slices, a disk at work. No program in this text but the worlds.
-/
namespace Go.Proofs.YtmfhipjceeijmaaGreatDoor.G
open Go.RowKit
open D (dP)

/-- The first place that the laws take. -/
def firstZ (l : List R.En) : Int := match l with | [] => 1 | e :: _ => e.pos
abbrev room20 : Nat := 1048576
theorem light_of {es : List EV} (h : LightAll es) : ∀ x ∈ es, E.Small x.1.b := fun x hx => light_small (h.2 x hx)
theorem follows_all {es : List R.En} {p c : Int} (h : R.follows es p c = true) : ∀ e ∈ es, R.right e = true := R.follows_right h
theorem seg_fits {n : Nat} {es : List R.En} (hn : n ≤ far) (h : ∀ e ∈ es, R.right e = true) (hl : es.length ≤ 40) : (segB n es).length ≤ room20 := by
  have := segB_len hn h
  have h2 : es.length * 2921 ≤ 40 * 2921 := Nat.mul_le_mul_right _ hl
  unfold room20
  omega
theorem inv_seg {n : Nat} {es : List R.En} {nm : Tx} (hn : n ≤ far) (h : ∀ e ∈ es, R.right e = true) (hl : es.length ≤ 40) : D.Inv room20 [full nm (segB n es)] := inv_one (seg_fits hn h hl)
theorem law_create {j n : Nat} (hj : 1 ≤ j) (hj9 : j ≤ 9) (h1 : 1 ≤ n) (h2 : n ≤ far) : createD room20 (nameS (j : Int)) (n : Int) [] = (0, [full (nameS (j : Int)) (segB n [])]) :=
  create_one hj hj9 h1 h2 (seg_fits h2 (fun _ h => by cases h) (by simp))
theorem law_add {j n : Nat} {a b : List R.En} (hj : 1 ≤ j) (hj9 : j ≤ 9) (h1 : 1 ≤ n) (h2 : n ≤ far) (hw : R.follows (a ++ b) ((n : Int) - 1) 0 = true) (hl : (a ++ b).length ≤ 40) : addD room20 (nameS (j : Int)) b [full (nameS (j : Int)) (segB n a)] = (0, [full (nameS (j : Int)) (segB n (a ++ b))]) :=
  add_one hj hj9 h1 h2 hw (seg_fits h2 (follows_all hw) hl)
theorem law_gap {j n : Nat} {b : List R.En} (h1 : 1 ≤ n) (h2 : n ≤ far) (hw : R.follows b ((n : Int) - 1) 0 = false) : addD room20 (nameS (j : Int)) b [full (nameS (j : Int)) (segB n [])] = (11, [full (nameS (j : Int)) (segB n [])]) :=
  gap_one (es0 := []) h1 h2 rfl hw
theorem upto_of {last : Int} : ∀ {es : List R.En} {j : Nat}, j ≤ es.length → (∀ i (h : i < es.length), i < j → es[i].pos ≤ last) → (∀ h : j < es.length, last < es[j].pos) → upto last es = es.take j
  | [], 0, _, _, _ => rfl
  | e :: es, 0, _, _, h => by
    have := h (by simp)
    rw [upto_no es (by simpa using this)]
    rfl
  | e :: es, j + 1, hj, ha, hb => by
    have h0 := ha 0 (by simp) (by omega)
    rw [upto_yes es (by simpa using h0), List.take_succ_cons, upto_of (j := j) (by simpa using hj) (fun i hi hij => by have := ha (i + 1) (by simpa using hi) (by omega); rw [List.getElem_cons_succ] at this; exact this) (fun h => by have := hb (by simpa using h); rw [List.getElem_cons_succ] at this; exact this)]
theorem readsR_rest {w : World} {aa : Option Addr} {cap k : Nat} {es : List EV} (h : ReadsR w (.slice aa es.length cap) es) (hk : k ≤ es.length) : ReadsR w (.slice (if cap = k then aa else Option.map (fun x => x.add (k * 7)) aa) (es.length - k) (cap - k)) (es.drop k) := by
  obtain ⟨a2, c2, hv, hc, hn, hx⟩ := h
  cases hv
  have hl : (es.drop k).length = es.length - k := List.length_drop
  refine ⟨_, _, by rw [hl], by rw [hl]; omega, fun h => ?_, fun i hi => ?_⟩
  · by_cases hck : cap = k
    · omega
    · rw [if_neg hck] at h
      have := hn (by simpa using h)
      omega
  · rw [hl] at hi
    have e1 : (es.drop k)[i] = es[k + i] := by simp
    rw [e1]
    obtain ⟨hre, hp, b2, o2, e2, h7⟩ := hx (k + i) (by omega)
    cases e2
    rw [if_neg (by omega)]
    refine ⟨hre, hp, b2, o2 + k * 7, by simp [Go.WideShapes.add_plain], ?_⟩
    rw [show o2 + k * 7 + i * 7 = o2 + (k + i) * 7 by omega]
    exact h7
/-- A disk at work. -/
structure OneAt (C : D.DC) (w0 : World) (p ga : Nat) (wr : World) (l : List D.F) (S : Nat → Prop) : Prop where
  at_ : C.At w0.heap.size wr p room20 l S
  pa : wr.cell? ⟨ga, 0, none⟩ = some (dP p)
  na : ¬ S ga
  bel : Below w0.heap.size w0 wr
section
variable {C : D.DC} {w0 : World} {p ga : Nat} {wr w' : World} {l l2 : List D.F} {S S2 : Nat → Prop}
theorem OneAt.lo (h : OneAt C w0 p ga wr l S) : ∀ k, S k → w0.heap.size ≤ k := fun _ hk => (C.low h.at_ hk).1
theorem OneAt.next (h : OneAt C w0 p ga wr l S) (hd : C.At w0.heap.size w' p room20 l2 S2) (hg : D.Grow S wr S2) (hb : D.But S wr w') : OneAt C w0 p ga w' l2 S2 :=
  ⟨hd, cell_but h.pa hb h.na, fun h1 => by
    rcases hg ga h1 with h3 | h3
    · exact h.na h3
    · have := World.block_lt_of_cell? _ _ h.pa
      dsimp only at this
      omega, but_low h.bel hb h.lo⟩
theorem OneAt.below (h : OneAt C w0 p ga wr l S) (hb : Below wr.heap.size wr w') : OneAt C w0 p ga w' l S := h.next (C.below h.at_ hb) (fun _ h => .inl h) (D.But.of_below hb)
theorem OneAt.drew (h : OneAt C w0 p ga wr l S) : OneAt C w0 p ga wr.drew l S :=
  ⟨C.keep (w' := wr.drew) h.at_ (Nat.le_refl _) (fun _ _ => rfl), h.pa, h.na, ⟨h.bel.os, h.bel.tape, h.bel.output, h.bel.size, h.bel.block⟩⟩
/-- A block that stands by and is none of the disk's stays. -/
theorem off9 {wr : World} {S S2 : Nat → Prop} (hg : D.Grow S wr S2) {k : Nat} (hk : k < wr.heap.size) (hs : ¬ S k) : ¬ S2 k := fun h1 => by
  rcases hg k h1 with h3 | h3
  · exact hs h3
  · omega
end
end Go.Proofs.YtmfhipjceeijmaaGreatDoor.G
