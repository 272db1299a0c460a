/-
  Own texts, joined: SegCode14 SegCode15
-/
import Derived.Test.YtmfhipjceeijmaaGreatDoorBun41
import Derived.Test.YtmfhipjceeijmaaGreatDoorBun10

/-
  The segment package: Add.
-/
namespace Go.Proofs.YtmfhipjceeijmaaGreatDoor.G
open Go.RowKit
open D (dP)
attribute [local go_sem] ext_Bd ext_Bl ext_Bt toList_B add_B size_B get_Bt

theorem addD_of {room f e e0 : Nat} {nm : Tx} {l l2 : List D.F} {es es0 : List R.En} {t : Bool} (hl : loadD nm l = (e0, f, es0, t)) (H : addD room nm es l = (e, l2)) :
    (e0 ≠ 0 ∧ e = e0 ∧ l2 = l) ∨ (e0 = 0 ∧ t = true ∧ e = 2 ∧ l2 = l) ∨
    (e0 = 0 ∧ t = false ∧ R.follows es (R.lastP es0 ((f : Int) - 1)) (R.lastQ es0 0) = false ∧ e = 11 ∧ l2 = l) ∨
    (e0 = 0 ∧ t = false ∧ R.follows es (R.lastP es0 ((f : Int) - 1)) (R.lastQ es0 0) = true ∧ es = [] ∧ e = 0 ∧ l2 = l) ∨
    (e0 = 0 ∧ t = false ∧ R.follows es (R.lastP es0 ((f : Int) - 1)) (R.lastQ es0 0) = true ∧ es ≠ [] ∧ extD room nm (F.frames (es.map pay)) l = (e, l2)) := by
  unfold addD at H
  rw [hl] at H
  cases e0 with
  | succ k =>
    cases H
    exact .inl ⟨by omega, rfl, rfl⟩
  | zero =>
    dsimp only at H
    cases t with
    | true =>
      rw [if_pos rfl] at H
      cases H
      exact .inr (.inl ⟨rfl, rfl, rfl, rfl⟩)
    | false =>
      rw [if_neg (by decide)] at H
      cases hf : R.follows es (R.lastP es0 ((f : Int) - 1)) (R.lastQ es0 0) with
      | false =>
        rw [hf, if_pos rfl] at H
        cases H
        exact .inr (.inr (.inl ⟨rfl, rfl, rfl, rfl, rfl⟩))
      | true =>
        rw [hf, if_neg (by decide)] at H
        by_cases he : es = []
        · rw [if_pos he] at H
          cases H
          exact .inr (.inr (.inr (.inl ⟨rfl, rfl, rfl, he, rfl, rfl⟩)))
        · rw [if_neg he] at H
          exact .inr (.inr (.inr (.inr ⟨rfl, rfl, rfl, he, H⟩)))
set_option maxRecDepth 100000 in
set_option maxHeartbeats 4000000 in
theorem Add_l (C : D.DC) {bs : Nat} {w : World} {p room : Nat} {l : List D.F} {S : Nat → Prop} (n : Nat) (es : List EV) (v : Value) (e : Nat) (l2 : List D.F) (hA : C.At bs w p room l S) (hI : D.Inv room l) (hroom : room ≤ 100000000) (h1 : 1 ≤ n) (h9 : n ≤ 9) (hv : ∀ w', D.But S w w' → ReadsR w' v es) (hl : es.length ≤ 100) (hs : ∀ x ∈ es, E.Small x.1.b) (H : addD room (nameS (n : Int)) (ensOf es) l = (e, l2)) :
    Calls Tryz.prog 14 #[dP p, .int .i64 (n : Int), v] w fun x w' => x = .returned (.int .i64 (e : Int)) ∧ (∃ S2, C.At bs w' p room l2 S2 ∧ D.Grow S w S2) ∧ D.But S w w' := by
  obtain ⟨⟨e0, f, es0, t⟩, hld⟩ : ∃ q, loadD (nameS (n : Int)) l = q := ⟨_, rfl⟩
  have hcase := addD_of hld H
  have HLD := Lib.hid (Load_x C n e0 f es0 t hA hI hroom h9 hld)
  have HA := Lib.hid hA
  have HI := Lib.hid hI
  have HV := Lib.hid hv
  have HS := Lib.hid hs
  have hnl := name_len (n : Int)
  obtain ⟨va, vn, vc, rfl⟩ : ∃ a n c, v = .slice a n c := by obtain ⟨a, c, h, _⟩ := hv w (D.But.refl _ _); exact ⟨a, _, c, h⟩
  have hvn : vn = es.length := by
    obtain ⟨a, c, h, _⟩ := hv w (D.But.refl _ _)
    cases h
    rfl
  subst hvn
  have HFA := Lib.hid (show e0 = 0 → (1 ≤ f ∧ f ≤ far) ∧ es0.length ≤ room from fun h => by
    subst h
    have := load_facts hI hld
    exact ⟨this.1, this.2.2.2⟩)
  clear hA hI hv hs H hld
  rcases hcase with ⟨h0, rfl, rfl⟩ | ⟨rfl, rfl, rfl, rfl⟩ | ⟨rfl, rfl, hfo, rfl, rfl⟩ | ⟨rfl, rfl, hfo, hne, rfl, rfl⟩ | ⟨rfl, rfl, hfo, hne, hext⟩
  · have hei : ((e : Int) == 0) = false := beq_eq_false_iff_ne.2 (by omega)
    have hen : ¬ (e : Int) = 0 := by omega
    clear h0
    go_enter Tryz.func14, Tryz.ntmps14
    go_wp2_with fail
    refine HLD.out.mono ?_
    rintro x w1 ⟨⟨v0, xs, rfl, _, hrow⟩, hb1⟩
    obtain ⟨a0, c0, rfl⟩ := own_slice hrow.own
    have HB := Lib.hid (hb1.alloc hb1.size (.cells #[.int .i64 (f : Int), .slice a0 xs.length c0, .bool t] 38))
    have HA1 := Lib.hid (C.below HA.out HB.out)
    clear hb1 hrow
    go_wp2
    go_ret
    exact ⟨rfl, ⟨S, HA1.out, fun _ h => .inl h⟩, D.But.of_below HB.out⟩
  · go_enter Tryz.func14, Tryz.ntmps14
    go_wp2_with fail
    refine HLD.out.mono ?_
    rintro x w1 ⟨⟨v0, xs, rfl, _, hrow⟩, hb1⟩
    obtain ⟨a0, c0, rfl⟩ := own_slice hrow.own
    have HB := Lib.hid (hb1.alloc hb1.size (.cells #[.int .i64 (f : Int), .slice a0 xs.length c0, .bool true] 38))
    have HA1 := Lib.hid (C.below HA.out HB.out)
    clear hb1 hrow
    go_wp2
    go_ret
    exact ⟨rfl, ⟨S, HA1.out, fun _ h => .inl h⟩, D.But.of_below HB.out⟩
  · have HFO := Lib.hid hfo
    clear hfo
    go_enter Tryz.func14, Tryz.ntmps14
    go_wp2_with fail
    refine HLD.out.mono ?_
    rintro x w1 ⟨⟨v0, xs, rfl, hxs, hrow⟩, hb1⟩
    have HROW := Lib.hid hrow
    obtain ⟨a0, c0, rfl⟩ := own_slice hrow.own
    have HB1 := Lib.hid hb1
    have hal : Below w1.heap.size w1 (w1.alloc (.cells #[.int .i64 (f : Int), .slice a0 xs.length c0, .bool false] 38)) := (Below.refl _ w1).alloc (Nat.le_refl _) _
    have HB2 := Lib.hid (HB1.out.trans (hal.mono HB1.out.size))
    have HX2 := Lib.hid (readsR_below hrow.reads hal)
    have HV2 := Lib.hid (HV.out _ (D.But.of_below HB2.out))
    have HA2 := Lib.hid (C.below HA.out HB2.out)
    have HC0 := Lib.hid (heap_alloc_new w1 (.cells #[.int .i64 (f : Int), .slice a0 xs.length c0, .bool false] 38))
    have HFF := Lib.hid (show R.follows (ensOf es) (R.lastP (ensOf xs) ((f : Int) - 1)) (R.lastQ (ensOf xs) 0) = false by rw [hxs]; exact HFO.out)
    have hxl : xs.length ≤ 100000000 := by
      have h2 := (HFA.out (by trivial)).2
      rw [← hxs, ensOf_len] at h2
      omega
    obtain ⟨b, hbe⟩ : ∃ b, w1.heap.size = b := ⟨_, rfl⟩
    rw [hbe] at HC0
    have HBE := Lib.hid hbe
    clear hbe hal hb1 hrow hxs HFO
    go_upto_region 2 with (fail)
    rw [HBE.out]
    generalize w1.alloc (.cells #[.int .i64 (f : Int), .slice a0 xs.length c0, .bool false] 38) = W at *
    have k0 := block_cell HC0.out 0
    have k1 := block_cell HC0.out 1
    have k2 := block_cell HC0.out 2
    simp only [List.getElem?_toArray, List.getElem?_cons_zero, List.getElem?_cons_succ] at k0 k1 k2
    go_wp2_with fail
    refine (goesOn_l f xs _ false es _ false W (HFA.out (by trivial)).1 HX2.out HV2.out hxl (by omega) HS.out HFF.out).mono ?_
    rintro x w3 ⟨rfl, hb3⟩
    have HB3 := Lib.hid (HB2.out.trans (hb3.mono HB2.out.size))
    have HA3 := Lib.hid (C.below HA2.out hb3)
    clear hb3
    go_wp2
    go_ret
    exact ⟨rfl, ⟨S, HA3.out, fun _ h => .inl h⟩, D.But.of_below HB3.out⟩
  · have HFO := Lib.hid hfo
    clear hfo
    have hei : ((es.length : Int) == 0) = true := by cases es with | nil => rfl | cons a b => cases hne
    clear hne
    go_enter Tryz.func14, Tryz.ntmps14
    go_wp2_with fail
    refine HLD.out.mono ?_
    rintro x w1 ⟨⟨v0, xs, rfl, hxs, hrow⟩, hb1⟩
    have HROW := Lib.hid hrow
    obtain ⟨a0, c0, rfl⟩ := own_slice hrow.own
    have HB1 := Lib.hid hb1
    have hal : Below w1.heap.size w1 (w1.alloc (.cells #[.int .i64 (f : Int), .slice a0 xs.length c0, .bool false] 38)) := (Below.refl _ w1).alloc (Nat.le_refl _) _
    have HB2 := Lib.hid (HB1.out.trans (hal.mono HB1.out.size))
    have HX2 := Lib.hid (readsR_below hrow.reads hal)
    have HV2 := Lib.hid (HV.out _ (D.But.of_below HB2.out))
    have HA2 := Lib.hid (C.below HA.out HB2.out)
    have HC0 := Lib.hid (heap_alloc_new w1 (.cells #[.int .i64 (f : Int), .slice a0 xs.length c0, .bool false] 38))
    have HFF := Lib.hid (show R.follows (ensOf es) (R.lastP (ensOf xs) ((f : Int) - 1)) (R.lastQ (ensOf xs) 0) = true by rw [hxs]; exact HFO.out)
    have hxl : xs.length ≤ 100000000 := by
      have h2 := (HFA.out (by trivial)).2
      rw [← hxs, ensOf_len] at h2
      omega
    obtain ⟨b, hbe⟩ : ∃ b, w1.heap.size = b := ⟨_, rfl⟩
    rw [hbe] at HC0
    have HBE := Lib.hid hbe
    clear hbe hal hb1 hrow hxs HFO
    go_upto_region 2 with (fail)
    rw [HBE.out]
    generalize w1.alloc (.cells #[.int .i64 (f : Int), .slice a0 xs.length c0, .bool false] 38) = W at *
    have k0 := block_cell HC0.out 0
    have k1 := block_cell HC0.out 1
    have k2 := block_cell HC0.out 2
    simp only [List.getElem?_toArray, List.getElem?_cons_zero, List.getElem?_cons_succ] at k0 k1 k2
    go_wp2_with fail
    refine (goesOn_l f xs _ false es _ true W (HFA.out (by trivial)).1 HX2.out HV2.out hxl (by omega) HS.out HFF.out).mono ?_
    rintro x w3 ⟨rfl, hb3⟩
    have HB3 := Lib.hid (HB2.out.trans (hb3.mono HB2.out.size))
    have HA3 := Lib.hid (C.below HA2.out hb3)
    clear hb3
    go_wp2
    go_ret
    exact ⟨rfl, ⟨S, HA3.out, fun _ h => .inl h⟩, D.But.of_below HB3.out⟩
  · have HFO := Lib.hid hfo
    clear hfo
    have hel : es.length ≠ 0 := fun h => hne (by rw [List.length_eq_zero_iff.1 h]; rfl)
    have hei : ((es.length : Int) == 0) = false := beq_eq_false_iff_ne.2 (by omega)
    have heq : ¬ (es.length : Int) = 0 := by omega
    have HEX := Lib.hid hext
    clear hne hext
    go_enter Tryz.func14, Tryz.ntmps14
    go_wp2_with fail
    refine HLD.out.mono ?_
    rintro x w1 ⟨⟨v0, xs, rfl, hxs, hrow⟩, hb1⟩
    have HROW := Lib.hid hrow
    obtain ⟨a0, c0, rfl⟩ := own_slice hrow.own
    have HB1 := Lib.hid hb1
    have hal : Below w1.heap.size w1 (w1.alloc (.cells #[.int .i64 (f : Int), .slice a0 xs.length c0, .bool false] 38)) := (Below.refl _ w1).alloc (Nat.le_refl _) _
    have HB2 := Lib.hid (HB1.out.trans (hal.mono HB1.out.size))
    have HX2 := Lib.hid (readsR_below hrow.reads hal)
    have HV2 := Lib.hid (HV.out _ (D.But.of_below HB2.out))
    have HA2 := Lib.hid (C.below HA.out HB2.out)
    have HC0 := Lib.hid (heap_alloc_new w1 (.cells #[.int .i64 (f : Int), .slice a0 xs.length c0, .bool false] 38))
    have HFF := Lib.hid (show R.follows (ensOf es) (R.lastP (ensOf xs) ((f : Int) - 1)) (R.lastQ (ensOf xs) 0) = true by rw [hxs]; exact HFO.out)
    have hxl : xs.length ≤ 100000000 := by
      have h2 := (HFA.out (by trivial)).2
      rw [← hxs, ensOf_len] at h2
      omega
    obtain ⟨b, hbe⟩ : ∃ b, w1.heap.size = b := ⟨_, rfl⟩
    rw [hbe] at HC0
    have HBE := Lib.hid hbe
    clear hbe hal hb1 hrow hxs HFO
    go_upto_region 2 with (fail)
    rw [HBE.out]
    generalize w1.alloc (.cells #[.int .i64 (f : Int), .slice a0 xs.length c0, .bool false] 38) = W at *
    have k0 := block_cell HC0.out 0
    have k1 := block_cell HC0.out 1
    have k2 := block_cell HC0.out 2
    simp only [List.getElem?_toArray, List.getElem?_cons_zero, List.getElem?_cons_succ] at k0 k1 k2
    go_wp2_with fail
    refine (goesOn_l f xs _ false es _ true W (HFA.out (by trivial)).1 HX2.out HV2.out hxl (by omega) HS.out HFF.out).mono ?_
    rintro x w3 ⟨rfl, hb3⟩
    have HB3 := Lib.hid (HB2.out.trans (hb3.mono HB2.out.size))
    have HA3 := Lib.hid (C.below HA2.out hb3)
    clear hb3
    go_wp2_with fail
    refine (Name_l (n : Int) w3 ⟨by omega, by omega⟩ (.inr (by omega))).mono ?_
    rintro x w4 ⟨rfl, hb4⟩
    have HB4 := Lib.hid (HB3.out.trans (hb4.mono HB3.out.size))
    have HA4 := Lib.hid (C.below HA3.out hb4)
    have HV4 := Lib.hid (HV.out _ (D.But.of_below HB4.out))
    have hright := R.follows_right HFF.out
    have HRT := Lib.hid (show ∀ p ∈ es, R.right p.1 = true from fun p hp => hright p.1 (by unfold ensOf; exact List.mem_map_of_mem hp))
    have hpl := pays_len hright
    have HPG := Lib.hid (show ∀ q ∈ (ensOf es).map pay, F.good q from fun q hq => by
      obtain ⟨x, hx, rfl⟩ := List.mem_map.1 hq
      exact pay_good (hright x hx))
    have hpn : ((ensOf es).map pay).length = es.length := by rw [List.length_map, ensOf_len]
    rw [ensOf_len] at hpl
    clear hb4 hright HA3 HB3
    generalize nameS (n : Int) = nm at *
    go_wp2_with fail
    refine (bodyOf_l es _ w4 (by omega) HV4.out HRT.out).mono ?_
    rintro x w5 ⟨⟨vb, rfl, hown⟩, hb5⟩
    have HB5 := Lib.hid (HB4.out.trans (hb5.mono HB4.out.size))
    have HA5 := Lib.hid (C.below HA4.out hb5)
    have HRD := Lib.hid (reads_own hown)
    obtain ⟨va2, vc2, rfl⟩ := own_slice hown
    clear hb5 hown HA4 HB4
    go_wp2_with fail
    refine (extend_l C nm ((ensOf es).map pay) _ e l2 HA5.out HI.out hroom hnl HRD.out HPG.out (by omega) (by omega) HEX.out).mono ?_
    rintro x w6 ⟨rfl, ⟨S2, hA6, hg6⟩, hb6⟩
    have HR := Lib.hid (show (∃ S2, C.At bs w6 p room l2 S2 ∧ D.Grow S w S2) ∧ D.But S w w6 from ⟨⟨S2, hA6, hg6.wide HB5.out.size⟩, (D.But.of_below HB5.out).trans hb6⟩)
    clear hA6 hg6 hb6
    go_wp2
    go_ret
    exact ⟨rfl, HR.out⟩
end Go.Proofs.YtmfhipjceeijmaaGreatDoor.G

/-
  The segment package: Cut; the landed package keeps its contracts.
-/
namespace Go.Proofs.YtmfhipjceeijmaaGreatDoor.G
open Go.RowKit
open D (dP)
attribute [local go_sem] ext_Bd ext_Bl ext_Bt toList_B add_B size_B get_Bt

theorem cutD_of {room f e e0 : Nat} {nm : Tx} {l l2 : List D.F} {es0 : List R.En} {t : Bool} {last : Int} (hl : loadD nm l = (e0, f, es0, t)) (H : cutD room nm last l = (e, l2)) :
    (e0 ≠ 0 ∧ e = e0 ∧ l2 = l) ∨ (e0 = 0 ∧ t = false ∧ (upto last es0).length = es0.length ∧ e = 0 ∧ l2 = l) ∨
    (e0 = 0 ∧ ¬ (t = false ∧ (upto last es0).length = es0.length) ∧ (D.append room temp (segB f (upto last es0)) (D.del temp l)).1 = 0 ∧ D.rename temp nm (D.sync temp (D.append room temp (segB f (upto last es0)) (D.del temp l)).2).2 = (e, l2)) ∨
    (e0 = 0 ∧ ¬ (t = false ∧ (upto last es0).length = es0.length) ∧ (D.append room temp (segB f (upto last es0)) (D.del temp l)).1 ≠ 0 ∧ e = (D.append room temp (segB f (upto last es0)) (D.del temp l)).1 ∧ l2 = D.del temp l) := by
  unfold cutD at H
  rw [hl] at H
  cases e0 with
  | succ k =>
    cases H
    exact .inl ⟨by omega, rfl, rfl⟩
  | zero =>
    dsimp only at H
    by_cases hc : t = false ∧ (upto last es0).length = es0.length
    · rw [if_pos hc] at H
      cases H
      exact .inr (.inl ⟨rfl, hc.1, hc.2, rfl, rfl⟩)
    · rw [if_neg hc] at H
      by_cases ha : (D.append room temp (segB f (upto last es0)) (D.del temp l)).1 = 0
      · rw [if_pos ha] at H
        exact .inr (.inr (.inl ⟨rfl, hc, ha, H⟩))
      · rw [if_neg ha] at H
        cases H
        exact .inr (.inr (.inr ⟨rfl, hc, ha, rfl, rfl⟩))
theorem readsC_own {w : World} {base : Nat} {v : Value} {n : Nat} {xs : List Value} (h : w.ownsRow base 9 1 v n xs) : ReadsC w v xs := by
  have hn : xs.length = n := by have := h.1; omega
  subst hn
  rcases h.2 with ⟨rfl, h0⟩ | ⟨g, cap, cur, rfl, _, _, hc, _⟩
  · exact ⟨none, 0, by rw [h0], by omega, fun _ => rfl, fun i hi => by omega⟩
  · exact ⟨_, cap, rfl, hc, fun h => (by cases h), fun i hi => ⟨g, 0, rfl, by rw [Nat.zero_add]; exact h.cellAt i (by omega)⟩⟩
theorem segB_take {f : Nat} {es : List R.En} (k : Nat) : (segB f (es.take k)).length ≤ (segB f es).length := by
  conv => rhs; rw [← List.take_append_drop k es]
  rw [segB_append, List.length_append]
  omega
set_option maxRecDepth 100000 in
set_option maxHeartbeats 8000000 in
theorem Cut_l (C : D.DC) {bs : Nat} {w : World} {p room : Nat} {l : List D.F} {S : Nat → Prop} (n : Nat) (last : Int) (e : Nat) (l2 : List D.F) (hA : C.At bs w p room l S) (hI : D.Inv room l) (hroom : room ≤ 100000000) (h1 : 1 ≤ n) (h9 : n ≤ 9) (H : cutD room (nameS (n : Int)) last l = (e, l2)) :
    Calls Tryz.prog 23 #[dP p, .int .i64 (n : Int), .int .i64 last] w fun x w' => x = .returned (.int .i64 (e : Int)) ∧ (∃ S2, C.At bs w' p room l2 S2 ∧ D.Grow S w S2) ∧ D.But S w w' := by
  obtain ⟨⟨e0, f, es0, t⟩, hld⟩ : ∃ q, loadD (nameS (n : Int)) l = q := ⟨_, rfl⟩
  have hcase := cutD_of hld H
  have HLD := Lib.hid (Load_x C n e0 f es0 t hA hI hroom h9 hld)
  have HA := Lib.hid hA
  have HI := Lib.hid hI
  have hnl := name_len (n : Int)
  have HLOW := Lib.hid (show ∀ k, S k → k < w.heap.size from fun k hk => (C.low hA hk).2)
  have HFA := Lib.hid (show e0 = 0 → (1 ≤ f ∧ f ≤ far) ∧ es0.length ≤ room ∧ R.follows es0 ((f : Int) - 1) 0 = true ∧ (segB f es0).length ≤ room from fun h => by
    subst h
    have := load_facts hI hld
    exact ⟨this.1, this.2.2.2, this.2.1, this.2.2.1⟩)
  clear hA hI H hld
  rcases hcase with ⟨h0, rfl, rfl⟩ | ⟨rfl, rfl, hup, rfl, rfl⟩ | ⟨rfl, hc, hap, hrn⟩ | ⟨rfl, hc, hap, rfl, rfl⟩
  · have hei : ((e : Int) == 0) = false := beq_eq_false_iff_ne.2 (by omega)
    have hen : ¬ (e : Int) = 0 := by omega
    clear h0
    go_enter Tryz.func23, Tryz.ntmps23
    go_wp2_with fail
    refine HLD.out.mono ?_
    rintro x w1 ⟨⟨v0, xs, rfl, _, hrow⟩, hb1⟩
    obtain ⟨a0, c0, rfl⟩ := own_slice hrow.own
    have HB := Lib.hid (hb1.alloc hb1.size (.cells #[.int .i64 (f : Int), .slice a0 xs.length c0, .bool t] 38))
    have HA1 := Lib.hid (C.below HA.out HB.out)
    clear hb1 hrow
    go_wp2
    go_ret
    exact ⟨rfl, ⟨S, HA1.out, fun _ h => .inl h⟩, D.But.of_below HB.out⟩
  · have HUP := Lib.hid hup
    clear hup
    go_enter Tryz.func23, Tryz.ntmps23
    go_wp2_with fail
    refine HLD.out.mono ?_
    rintro x w1 ⟨⟨v0, xs, rfl, hxs, hrow⟩, hb1⟩
    obtain ⟨a0, c0, rfl⟩ := own_slice hrow.own
    have HB1 := Lib.hid hb1
    have hal : Below w1.heap.size w1 (w1.alloc (.cells #[.int .i64 (f : Int), .slice a0 xs.length c0, .bool false] 38)) := (Below.refl _ w1).alloc (Nat.le_refl _) _
    have HB2 := Lib.hid (HB1.out.trans (hal.mono HB1.out.size))
    have HROW := Lib.hid (hrow.below hal)
    have HA2 := Lib.hid (C.below HA.out HB2.out)
    have HC0 := Lib.hid (heap_alloc_new w1 (.cells #[.int .i64 (f : Int), .slice a0 xs.length c0, .bool false] 38))
    have hxl : xs.length ≤ 100000000 := by
      have h2 := (HFA.out (by trivial)).2.1
      rw [← hxs, ensOf_len] at h2
      omega
    have HXS := Lib.hid hxs
    have hwb := HB1.out.size
    obtain ⟨b, hbe⟩ : ∃ b, w1.heap.size = b := ⟨_, rfl⟩
    rw [hbe] at HC0 hwb
    have HBE := Lib.hid hbe
    clear hbe hal hb1 hrow hxs
    go_upto_region 2 with (fail)
    rw [HBE.out]
    generalize w1.alloc (.cells #[.int .i64 (f : Int), .slice a0 xs.length c0, .bool false] 38) = W at *
    have k0 := block_cell HC0.out 0
    have k1 := block_cell HC0.out 1
    have k2 := block_cell HC0.out 2
    simp only [List.getElem?_toArray, List.getElem?_cons_zero, List.getElem?_cons_succ] at k0 k1 k2
    go_wp2_with fail
    refine (upTo_l xs a0 c0 last W hxl HROW.out.reads).mono ?_
    rintro x w3 ⟨⟨k, rfl, hk, hu⟩, hb3⟩
    have HB3 := Lib.hid (HB2.out.trans (hb3.mono HB2.out.size))
    have HA3 := Lib.hid (C.below HA2.out hb3)
    have HROW3 := Lib.hid (HROW.out.below hb3)
    have HC3 := Lib.hid (block_below HC0.out hb3)
    have HU := Lib.hid hu
    have hs3 := lt_of_block HC3.out
    clear hb3 hu HA2 HB2 HROW HC0 k0 k1 k2
    have k0 := block_cell HC3.out 0
    have k1 := block_cell HC3.out 1
    have k2 := block_cell HC3.out 2
    simp only [List.getElem?_toArray, List.getElem?_cons_zero, List.getElem?_cons_succ] at k0 k1 k2
    have hke : ((k : Int) == (xs.length : Int)) = true := by
      have h2 := HUP.out
      rw [← HXS.out, HU.out, ensOf_len, ensOf_len, List.length_take] at h2
      rw [beq_iff_eq]; omega
    go_wp2
    go_ret
    exact ⟨rfl, ⟨S, HA3.out, fun _ h => .inl h⟩, D.But.of_below HB3.out⟩
  · have HC := Lib.hid hc
    have HAP := Lib.hid hap
    have HRN := Lib.hid hrn
    clear hc hap hrn
    cases t
    · go_enter Tryz.func23, Tryz.ntmps23
      go_wp2_with fail
      refine HLD.out.mono ?_
      rintro x w1 ⟨⟨v0, xs, rfl, hxs, hrow⟩, hb1⟩
      obtain ⟨a0, c0, rfl⟩ := own_slice hrow.own
      have HB1 := Lib.hid hb1
      have hal : Below w1.heap.size w1 (w1.alloc (.cells #[.int .i64 (f : Int), .slice a0 xs.length c0, .bool false] 38)) := (Below.refl _ w1).alloc (Nat.le_refl _) _
      have HB2 := Lib.hid (HB1.out.trans (hal.mono HB1.out.size))
      have HROW := Lib.hid (hrow.below hal)
      have HA2 := Lib.hid (C.below HA.out HB2.out)
      have HC0 := Lib.hid (heap_alloc_new w1 (.cells #[.int .i64 (f : Int), .slice a0 xs.length c0, .bool false] 38))
      have hxl : xs.length ≤ 100000000 := by
        have h2 := (HFA.out (by trivial)).2.1
        rw [← hxs, ensOf_len] at h2
        omega
      have HXS := Lib.hid hxs
      have hwb := HB1.out.size
      obtain ⟨b, hbe⟩ : ∃ b, w1.heap.size = b := ⟨_, rfl⟩
      rw [hbe] at HC0 hwb
      have HBE := Lib.hid hbe
      clear hbe hal hb1 hrow hxs
      go_upto_region 2 with (fail)
      rw [HBE.out]
      generalize w1.alloc (.cells #[.int .i64 (f : Int), .slice a0 xs.length c0, .bool false] 38) = W at *
      have k0 := block_cell HC0.out 0
      have k1 := block_cell HC0.out 1
      have k2 := block_cell HC0.out 2
      simp only [List.getElem?_toArray, List.getElem?_cons_zero, List.getElem?_cons_succ] at k0 k1 k2
      go_wp2_with fail
      refine (upTo_l xs a0 c0 last W hxl HROW.out.reads).mono ?_
      rintro x w3 ⟨⟨k, rfl, hk, hu⟩, hb3⟩
      have HB3 := Lib.hid (HB2.out.trans (hb3.mono HB2.out.size))
      have HA3 := Lib.hid (C.below HA2.out hb3)
      have HROW3 := Lib.hid (HROW.out.below hb3)
      have HC3 := Lib.hid (block_below HC0.out hb3)
      have HU := Lib.hid hu
      have hs3 := lt_of_block HC3.out
      clear hb3 hu HA2 HB2 HROW HC0 k0 k1 k2
      have k0 := block_cell HC3.out 0
      have k1 := block_cell HC3.out 1
      have k2 := block_cell HC3.out 2
      simp only [List.getElem?_toArray, List.getElem?_cons_zero, List.getElem?_cons_succ] at k0 k1 k2
      have hke : ((k : Int) == (xs.length : Int)) = false := by
        rw [beq_eq_false_iff_ne]
        intro h2
        refine HC.out ⟨by trivial, ?_⟩
        rw [← HXS.out, HU.out, ensOf_len, ensOf_len, List.length_take]
        omega
      obtain ⟨ed, hed⟩ : ∃ ed, (D.delete temp l).1 = ed := ⟨_, rfl⟩
      have HDL := Lib.hid (show D.delete temp l = (ed, D.del temp l) by rw [← hed, ← delete_two])
      have HID := Lib.hid (show D.Inv room (D.del temp l) from HI.out.del)
      clear hed
      go_wp2_with fail
      refine (C.delete temp ed (D.del temp l) HA3.out HI.out (by omega) (by decide) HDL.out).mono ?_
      rintro x w4 ⟨rfl, ⟨S4, hA4, hg4⟩, hb4⟩
      have HA4 := Lib.hid hA4
      have HG4 := Lib.hid (hg4.wide HB3.out.size)
      have hnS : ∀ j, w.heap.size ≤ j → ¬ S j := fun j hj hs => by have := HLOW.out j hs; omega
      have HB4 := Lib.hid ((D.But.of_below HB3.out).trans hb4)
      have HROW4 := Lib.hid (HROW3.out.but hb4 hnS)
      have HC4 := Lib.hid (but_at hb4 HC3.out (hnS b hwb))
      clear hA4 hg4 hb4 hnS k0 k1 k2 HA3 HB3 HROW3 HC3 HDL
      have k0 := block_cell HC4.out 0
      simp only [List.getElem?_toArray, List.getElem?_cons_zero] at k0
      have hfar := (HFA.out (by trivial)).1.2
      go_wp2_with fail
      refine (headOf_l f w4 hfar).mono ?_
      rintro x w5 ⟨rfl, hb5⟩
      have HA5 := Lib.hid (C.below HA4.out hb5)
      have HB5 := Lib.hid (HB4.out.trans (D.But.of_below (S := S) hb5))
      have HROW5 := Lib.hid (HROW4.out.below hb5)
      have hs45 := hb5.size
      have hws5 := HB5.out.size
      clear hb5 HA4 HB4 HROW4 HC4
      obtain ⟨hp, hhp⟩ : ∃ hp, headP f = hp := ⟨_, rfl⟩
      have HHP := Lib.hid hhp
      rw [hhp]
      have hal : Below w5.heap.size w5 (w5.alloc (.cells #[.string (B hp)] 9)) := (Below.refl _ w5).alloc (Nat.le_refl _) _
      have HOWN := Lib.hid (show (w5.alloc (.cells #[.string (B hp)] 9)).ownsRow w5.heap.size 9 1 (.slice (some ⟨w5.heap.size, 0, none⟩) 1 1) 1 [.string (B hp)] from
        ⟨rfl, .inr ⟨w5.heap.size, 1, #[.string (B hp)], rfl, Nat.le_refl _, heap_alloc_new w5 _, Nat.le_refl _, by unfold maxLen; omega, rfl, rfl⟩⟩)
      have HLT5 := Lib.hid (show ∀ j, S4 j → j < w5.heap.size from fun j hj => (C.low HA5.out hj).2)
      have HA6 := Lib.hid (C.below HA5.out hal)
      have HB6 := Lib.hid (HB5.out.trans (D.But.of_below (S := S) hal))
      have HRK := Lib.hid (readsR_take (HROW5.out.below hal).reads hk)
      have HRTK := Lib.hid (show ∀ q ∈ xs.take k, R.right q.1 = true from fun q hq => (HROW5.out.ev q (List.mem_of_mem_take hq)).2.1)
      have htl : (xs.take k).length = k := by rw [List.length_take]; omega
      have hs56 : w5.heap.size ≤ (w5.alloc (.cells #[.string (B hp)] 9)).heap.size := hal.size
      clear hal hhp HA5 HB5
      go_wp2_with fail
      refine (bodyOf_l (xs.take k) _ _ (by omega) HRK.out HRTK.out).mono ?_
      rintro x w7 ⟨⟨vb, rfl, hown⟩, hb7⟩
      rw [htl] at hown
      have HB7 := Lib.hid (HB6.out.trans (D.But.of_below (S := S) hb7))
      have HA7 := Lib.hid (C.below HA6.out hb7)
      have HRB := Lib.hid (readsC_own hown)
      have HOW7 := Lib.hid (own_below HOWN.out hb7)
      have hs67 := hb7.size
      have hpn : (strCells ((ensOf (xs.take k)).map pay)).length = k := by rw [strCells_len, List.length_map, ensOf_len, htl]
      obtain ⟨vba, vbc, rfl⟩ := own_slice hown
      clear hb7 hown HA6 HB6 HOWN HRK
      obtain ⟨i0, hi, hz0, hz1, hz2⟩ := info_parts Tryz.infoStr
      go_upto_region 9 with (at_builtin; refine wpList_append_reads rfl _ _ 67 rfl w5.heap.size 9 i0 (.string ⟨#[]⟩) 16 Tryz.underlying67 hi hz0 hz1 hz2 rfl (.slice (some ⟨w5.heap.size, 0, none⟩) 1 1) 1 [.string (B hp)] rfl HOW7.out _ _ rfl HRB.out (by intro u hu; unfold strCells at hu; obtain ⟨z, _, rfl⟩ := List.mem_map.1 hu; rfl) (by rw [hpn]; unfold maxLen; omega) (by rw [hpn]; omega) (by omega) ?_; intro v8 w8 hown8 hgrow8; rw [hpn] at hown8; have HOWN8 := Lib.hid hown8; have HGR8 := Lib.hid (show w7.grownBy w8 (some w5.heap.size) from hgrow8); obtain ⟨va8, vc8, rfl⟩ := own_slice hown8; clear hown8 hgrow8)
      have hb8 : Below w5.heap.size w7 w8 := (Below.refl w5.heap.size w7).grown HGR8.out (by omega) fun j hj => by cases hj; exact Nat.le_refl _
      have HB8 := Lib.hid (show D.But S w w8 from ⟨HGR8.out.os.trans HB7.out.os, HGR8.out.tape.trans HB7.out.tape, HGR8.out.output.trans HB7.out.output, Nat.le_trans HB7.out.size HGR8.out.size, fun j hj hs => (hb8.block j (by omega)).trans (HB7.out.block j hj hs)⟩)
      have HA8 := Lib.hid (C.keep HA7.out HGR8.out.size fun j hj => HGR8.out.block j (C.low HA7.out hj).2 fun e => by
        have h2 := HLT5.out j hj
        have h3 : w5.heap.size = j := by cases e; rfl
        omega)
      have HU2 := Lib.hid (show upto last es0 = ensOf (xs.take k) by rw [← HXS.out]; exact HU.out)
      have HSEG := Lib.hid (show segB f (ensOf (xs.take k)) = F.frames (hp :: (ensOf (xs.take k)).map pay) by unfold segB rows; rw [HHP.out])
      have hsegl : (segB f (ensOf (xs.take k))).length ≤ room := by
        have h2 := (HFA.out (by trivial)).2.2.2
        have h3 := segB_take (f := f) (es := es0) k
        rw [← HXS.out, ← ensOf_take] at h3
        rw [← HXS.out] at h2
        omega
      have hrl := frames_ge (rows f (ensOf (xs.take k)))
      have HGD := Lib.hid (show ∀ q ∈ hp :: (ensOf (xs.take k)).map pay, F.good q from fun q hq => by
        refine rows_good (n := f) (es := ensOf (xs.take k)) hfar (fun z hz => ?_) q (by unfold rows; rw [HHP.out]; exact hq)
        unfold ensOf at hz
        obtain ⟨y2, hy2, rfl⟩ := List.mem_map.1 hz
        exact HRTK.out y2 hy2)
      have HRD8 := Lib.hid (show Reads w8 (.slice va8 (1 + k) vc8) (strCells (hp :: (ensOf (xs.take k)).map pay)) from reads_own HOWN8.out)
      have hrl2 : (hp :: (ensOf (xs.take k)).map pay).length ≤ 100000000 := by
        have e1 : (rows f (ensOf (xs.take k))).length = (hp :: (ensOf (xs.take k)).map pay).length := by unfold rows; rw [HHP.out]
        have e2 : F.frames (rows f (ensOf (xs.take k))) = segB f (ensOf (xs.take k)) := rfl
        rw [e2] at hrl
        omega
      have hfl2 : (F.frames (hp :: (ensOf (xs.take k)).map pay)).length ≤ 1000000000 := by rw [← HSEG.out]; omega
      have HBW := Lib.hid (show D.But S w w8 from HB8.out)
      have HGW := Lib.hid HG4.out
      clear hrl hsegl HOW7 HRB HOWN8 HGR8 hb8 hpn htl k0 HA7 HB7 HB8 HRTK HROW5
      obtain ⟨ps, hps⟩ : ∃ ps, hp :: (ensOf (xs.take k)).map pay = ps := ⟨_, rfl⟩
      rw [hps] at HSEG HGD HRD8 hrl2 hfl2
      rw [HU2.out, HSEG.out] at HAP
      rw [HU2.out, HSEG.out] at HRN
      obtain ⟨lw, hlw⟩ : ∃ lw, (D.sync temp (D.append room temp (F.frames ps) (D.del temp l)).2).2 = lw := ⟨_, rfl⟩
      have HWR := Lib.hid (show wrD room temp (F.frames ps) (D.del temp l) = (0, lw) by
        unfold wrD
        rw [if_pos HAP.out, ← hlw]
        exact Prod.ext (sync_ok HAP.out) rfl)
      have HILW := Lib.hid (show D.Inv room lw by rw [← hlw]; exact HID.out.append.sync)
      rw [hlw] at HRN
      clear hlw hps HAP
      go_wp2_with fail
      refine (write_l C temp ps _ 0 lw HA8.out HID.out hroom (by decide) HRD8.out HGD.out hrl2 hfl2 HWR.out).mono ?_
      rintro x w9 ⟨rfl, ⟨S9, hA9, hg9⟩, hb9⟩
      have HA9 := Lib.hid hA9
      have HG9 := Lib.hid (HGW.out.next hg9 HBW.out.size)
      have HB9 := Lib.hid (HBW.out.next hb9 HGW.out)
      clear hA9 hg9 hb9
      go_wp2_with fail
      refine (Name_l (n : Int) w9 ⟨by omega, by omega⟩ (.inr (by omega))).mono ?_
      rintro x w10 ⟨rfl, hb10⟩
      have HA10 := Lib.hid (C.below HA9.out hb10)
      have HB10 := Lib.hid (HB9.out.trans (D.But.of_below (S := S) hb10))
      have hs10 := hb10.size
      clear hb10
      go_wp2_with fail
      refine (C.rename temp (nameS (n : Int)) e l2 HA10.out HILW.out (by omega) (by decide) (by omega) HRN.out).mono ?_
      rintro x w11 ⟨rfl, ⟨S11, hA11, hg11⟩, hb11⟩
      have HR := Lib.hid (show (∃ S2, C.At bs w11 p room l2 S2 ∧ D.Grow S w S2) ∧ D.But S w w11 from ⟨⟨S11, hA11, HG9.out.next hg11 HB10.out.size⟩, HB10.out.next hb11 HG9.out⟩)
      clear hA11 hg11 hb11
      go_wp2
      go_ret
      exact ⟨rfl, HR.out⟩
    · go_enter Tryz.func23, Tryz.ntmps23
      go_wp2_with fail
      refine HLD.out.mono ?_
      rintro x w1 ⟨⟨v0, xs, rfl, hxs, hrow⟩, hb1⟩
      obtain ⟨a0, c0, rfl⟩ := own_slice hrow.own
      have HB1 := Lib.hid hb1
      have hal : Below w1.heap.size w1 (w1.alloc (.cells #[.int .i64 (f : Int), .slice a0 xs.length c0, .bool true] 38)) := (Below.refl _ w1).alloc (Nat.le_refl _) _
      have HB2 := Lib.hid (HB1.out.trans (hal.mono HB1.out.size))
      have HROW := Lib.hid (hrow.below hal)
      have HA2 := Lib.hid (C.below HA.out HB2.out)
      have HC0 := Lib.hid (heap_alloc_new w1 (.cells #[.int .i64 (f : Int), .slice a0 xs.length c0, .bool true] 38))
      have hxl : xs.length ≤ 100000000 := by
        have h2 := (HFA.out (by trivial)).2.1
        rw [← hxs, ensOf_len] at h2
        omega
      have HXS := Lib.hid hxs
      have hwb := HB1.out.size
      obtain ⟨b, hbe⟩ : ∃ b, w1.heap.size = b := ⟨_, rfl⟩
      rw [hbe] at HC0 hwb
      have HBE := Lib.hid hbe
      clear hbe hal hb1 hrow hxs
      go_upto_region 2 with (fail)
      rw [HBE.out]
      generalize w1.alloc (.cells #[.int .i64 (f : Int), .slice a0 xs.length c0, .bool true] 38) = W at *
      have k0 := block_cell HC0.out 0
      have k1 := block_cell HC0.out 1
      have k2 := block_cell HC0.out 2
      simp only [List.getElem?_toArray, List.getElem?_cons_zero, List.getElem?_cons_succ] at k0 k1 k2
      go_wp2_with fail
      refine (upTo_l xs a0 c0 last W hxl HROW.out.reads).mono ?_
      rintro x w3 ⟨⟨k, rfl, hk, hu⟩, hb3⟩
      have HB3 := Lib.hid (HB2.out.trans (hb3.mono HB2.out.size))
      have HA3 := Lib.hid (C.below HA2.out hb3)
      have HROW3 := Lib.hid (HROW.out.below hb3)
      have HC3 := Lib.hid (block_below HC0.out hb3)
      have HU := Lib.hid hu
      have hs3 := lt_of_block HC3.out
      clear hb3 hu HA2 HB2 HROW HC0 k0 k1 k2
      have k0 := block_cell HC3.out 0
      have k1 := block_cell HC3.out 1
      have k2 := block_cell HC3.out 2
      simp only [List.getElem?_toArray, List.getElem?_cons_zero, List.getElem?_cons_succ] at k0 k1 k2
      obtain ⟨ed, hed⟩ : ∃ ed, (D.delete temp l).1 = ed := ⟨_, rfl⟩
      have HDL := Lib.hid (show D.delete temp l = (ed, D.del temp l) by rw [← hed, ← delete_two])
      have HID := Lib.hid (show D.Inv room (D.del temp l) from HI.out.del)
      clear hed
      go_wp2_with fail
      refine (C.delete temp ed (D.del temp l) HA3.out HI.out (by omega) (by decide) HDL.out).mono ?_
      rintro x w4 ⟨rfl, ⟨S4, hA4, hg4⟩, hb4⟩
      have HA4 := Lib.hid hA4
      have HG4 := Lib.hid (hg4.wide HB3.out.size)
      have hnS : ∀ j, w.heap.size ≤ j → ¬ S j := fun j hj hs => by have := HLOW.out j hs; omega
      have HB4 := Lib.hid ((D.But.of_below HB3.out).trans hb4)
      have HROW4 := Lib.hid (HROW3.out.but hb4 hnS)
      have HC4 := Lib.hid (but_at hb4 HC3.out (hnS b hwb))
      clear hA4 hg4 hb4 hnS k0 k1 k2 HA3 HB3 HROW3 HC3 HDL
      have k0 := block_cell HC4.out 0
      simp only [List.getElem?_toArray, List.getElem?_cons_zero] at k0
      have hfar := (HFA.out (by trivial)).1.2
      go_wp2_with fail
      refine (headOf_l f w4 hfar).mono ?_
      rintro x w5 ⟨rfl, hb5⟩
      have HA5 := Lib.hid (C.below HA4.out hb5)
      have HB5 := Lib.hid (HB4.out.trans (D.But.of_below (S := S) hb5))
      have HROW5 := Lib.hid (HROW4.out.below hb5)
      have hs45 := hb5.size
      have hws5 := HB5.out.size
      clear hb5 HA4 HB4 HROW4 HC4
      obtain ⟨hp, hhp⟩ : ∃ hp, headP f = hp := ⟨_, rfl⟩
      have HHP := Lib.hid hhp
      rw [hhp]
      have hal : Below w5.heap.size w5 (w5.alloc (.cells #[.string (B hp)] 9)) := (Below.refl _ w5).alloc (Nat.le_refl _) _
      have HOWN := Lib.hid (show (w5.alloc (.cells #[.string (B hp)] 9)).ownsRow w5.heap.size 9 1 (.slice (some ⟨w5.heap.size, 0, none⟩) 1 1) 1 [.string (B hp)] from
        ⟨rfl, .inr ⟨w5.heap.size, 1, #[.string (B hp)], rfl, Nat.le_refl _, heap_alloc_new w5 _, Nat.le_refl _, by unfold maxLen; omega, rfl, rfl⟩⟩)
      have HLT5 := Lib.hid (show ∀ j, S4 j → j < w5.heap.size from fun j hj => (C.low HA5.out hj).2)
      have HA6 := Lib.hid (C.below HA5.out hal)
      have HB6 := Lib.hid (HB5.out.trans (D.But.of_below (S := S) hal))
      have HRK := Lib.hid (readsR_take (HROW5.out.below hal).reads hk)
      have HRTK := Lib.hid (show ∀ q ∈ xs.take k, R.right q.1 = true from fun q hq => (HROW5.out.ev q (List.mem_of_mem_take hq)).2.1)
      have htl : (xs.take k).length = k := by rw [List.length_take]; omega
      have hs56 : w5.heap.size ≤ (w5.alloc (.cells #[.string (B hp)] 9)).heap.size := hal.size
      clear hal hhp HA5 HB5
      go_wp2_with fail
      refine (bodyOf_l (xs.take k) _ _ (by omega) HRK.out HRTK.out).mono ?_
      rintro x w7 ⟨⟨vb, rfl, hown⟩, hb7⟩
      rw [htl] at hown
      have HB7 := Lib.hid (HB6.out.trans (D.But.of_below (S := S) hb7))
      have HA7 := Lib.hid (C.below HA6.out hb7)
      have HRB := Lib.hid (readsC_own hown)
      have HOW7 := Lib.hid (own_below HOWN.out hb7)
      have hs67 := hb7.size
      have hpn : (strCells ((ensOf (xs.take k)).map pay)).length = k := by rw [strCells_len, List.length_map, ensOf_len, htl]
      obtain ⟨vba, vbc, rfl⟩ := own_slice hown
      clear hb7 hown HA6 HB6 HOWN HRK
      obtain ⟨i0, hi, hz0, hz1, hz2⟩ := info_parts Tryz.infoStr
      go_upto_region 9 with (at_builtin; refine wpList_append_reads rfl _ _ 67 rfl w5.heap.size 9 i0 (.string ⟨#[]⟩) 16 Tryz.underlying67 hi hz0 hz1 hz2 rfl (.slice (some ⟨w5.heap.size, 0, none⟩) 1 1) 1 [.string (B hp)] rfl HOW7.out _ _ rfl HRB.out (by intro u hu; unfold strCells at hu; obtain ⟨z, _, rfl⟩ := List.mem_map.1 hu; rfl) (by rw [hpn]; unfold maxLen; omega) (by rw [hpn]; omega) (by omega) ?_; intro v8 w8 hown8 hgrow8; rw [hpn] at hown8; have HOWN8 := Lib.hid hown8; have HGR8 := Lib.hid (show w7.grownBy w8 (some w5.heap.size) from hgrow8); obtain ⟨va8, vc8, rfl⟩ := own_slice hown8; clear hown8 hgrow8)
      have hb8 : Below w5.heap.size w7 w8 := (Below.refl w5.heap.size w7).grown HGR8.out (by omega) fun j hj => by cases hj; exact Nat.le_refl _
      have HB8 := Lib.hid (show D.But S w w8 from ⟨HGR8.out.os.trans HB7.out.os, HGR8.out.tape.trans HB7.out.tape, HGR8.out.output.trans HB7.out.output, Nat.le_trans HB7.out.size HGR8.out.size, fun j hj hs => (hb8.block j (by omega)).trans (HB7.out.block j hj hs)⟩)
      have HA8 := Lib.hid (C.keep HA7.out HGR8.out.size fun j hj => HGR8.out.block j (C.low HA7.out hj).2 fun e => by
        have h2 := HLT5.out j hj
        have h3 : w5.heap.size = j := by cases e; rfl
        omega)
      have HU2 := Lib.hid (show upto last es0 = ensOf (xs.take k) by rw [← HXS.out]; exact HU.out)
      have HSEG := Lib.hid (show segB f (ensOf (xs.take k)) = F.frames (hp :: (ensOf (xs.take k)).map pay) by unfold segB rows; rw [HHP.out])
      have hsegl : (segB f (ensOf (xs.take k))).length ≤ room := by
        have h2 := (HFA.out (by trivial)).2.2.2
        have h3 := segB_take (f := f) (es := es0) k
        rw [← HXS.out, ← ensOf_take] at h3
        rw [← HXS.out] at h2
        omega
      have hrl := frames_ge (rows f (ensOf (xs.take k)))
      have HGD := Lib.hid (show ∀ q ∈ hp :: (ensOf (xs.take k)).map pay, F.good q from fun q hq => by
        refine rows_good (n := f) (es := ensOf (xs.take k)) hfar (fun z hz => ?_) q (by unfold rows; rw [HHP.out]; exact hq)
        unfold ensOf at hz
        obtain ⟨y2, hy2, rfl⟩ := List.mem_map.1 hz
        exact HRTK.out y2 hy2)
      have HRD8 := Lib.hid (show Reads w8 (.slice va8 (1 + k) vc8) (strCells (hp :: (ensOf (xs.take k)).map pay)) from reads_own HOWN8.out)
      have hrl2 : (hp :: (ensOf (xs.take k)).map pay).length ≤ 100000000 := by
        have e1 : (rows f (ensOf (xs.take k))).length = (hp :: (ensOf (xs.take k)).map pay).length := by unfold rows; rw [HHP.out]
        have e2 : F.frames (rows f (ensOf (xs.take k))) = segB f (ensOf (xs.take k)) := rfl
        rw [e2] at hrl
        omega
      have hfl2 : (F.frames (hp :: (ensOf (xs.take k)).map pay)).length ≤ 1000000000 := by rw [← HSEG.out]; omega
      have HBW := Lib.hid (show D.But S w w8 from HB8.out)
      have HGW := Lib.hid HG4.out
      clear hrl hsegl HOW7 HRB HOWN8 HGR8 hb8 hpn htl k0 HA7 HB7 HB8 HRTK HROW5
      obtain ⟨ps, hps⟩ : ∃ ps, hp :: (ensOf (xs.take k)).map pay = ps := ⟨_, rfl⟩
      rw [hps] at HSEG HGD HRD8 hrl2 hfl2
      rw [HU2.out, HSEG.out] at HAP
      rw [HU2.out, HSEG.out] at HRN
      obtain ⟨lw, hlw⟩ : ∃ lw, (D.sync temp (D.append room temp (F.frames ps) (D.del temp l)).2).2 = lw := ⟨_, rfl⟩
      have HWR := Lib.hid (show wrD room temp (F.frames ps) (D.del temp l) = (0, lw) by
        unfold wrD
        rw [if_pos HAP.out, ← hlw]
        exact Prod.ext (sync_ok HAP.out) rfl)
      have HILW := Lib.hid (show D.Inv room lw by rw [← hlw]; exact HID.out.append.sync)
      rw [hlw] at HRN
      clear hlw hps HAP
      go_wp2_with fail
      refine (write_l C temp ps _ 0 lw HA8.out HID.out hroom (by decide) HRD8.out HGD.out hrl2 hfl2 HWR.out).mono ?_
      rintro x w9 ⟨rfl, ⟨S9, hA9, hg9⟩, hb9⟩
      have HA9 := Lib.hid hA9
      have HG9 := Lib.hid (HGW.out.next hg9 HBW.out.size)
      have HB9 := Lib.hid (HBW.out.next hb9 HGW.out)
      clear hA9 hg9 hb9
      go_wp2_with fail
      refine (Name_l (n : Int) w9 ⟨by omega, by omega⟩ (.inr (by omega))).mono ?_
      rintro x w10 ⟨rfl, hb10⟩
      have HA10 := Lib.hid (C.below HA9.out hb10)
      have HB10 := Lib.hid (HB9.out.trans (D.But.of_below (S := S) hb10))
      have hs10 := hb10.size
      clear hb10
      go_wp2_with fail
      refine (C.rename temp (nameS (n : Int)) e l2 HA10.out HILW.out (by omega) (by decide) (by omega) HRN.out).mono ?_
      rintro x w11 ⟨rfl, ⟨S11, hA11, hg11⟩, hb11⟩
      have HR := Lib.hid (show (∃ S2, C.At bs w11 p room l2 S2 ∧ D.Grow S w S2) ∧ D.But S w w11 from ⟨⟨S11, hA11, HG9.out.next hg11 HB10.out.size⟩, HB10.out.next hb11 HG9.out⟩)
      clear hA11 hg11 hb11
      go_wp2
      go_ret
      exact ⟨rfl, HR.out⟩
  · have HC := Lib.hid hc
    have HAP := Lib.hid hap
    obtain ⟨ee, hee0⟩ : ∃ ee, (D.append room temp (segB f (upto last es0)) (D.del temp l)).1 = ee := ⟨_, rfl⟩
    have HEE0 := Lib.hid hee0
    rw [hee0]
    clear hc hap hee0
    cases t
    · go_enter Tryz.func23, Tryz.ntmps23
      go_wp2_with fail
      refine HLD.out.mono ?_
      rintro x w1 ⟨⟨v0, xs, rfl, hxs, hrow⟩, hb1⟩
      obtain ⟨a0, c0, rfl⟩ := own_slice hrow.own
      have HB1 := Lib.hid hb1
      have hal : Below w1.heap.size w1 (w1.alloc (.cells #[.int .i64 (f : Int), .slice a0 xs.length c0, .bool false] 38)) := (Below.refl _ w1).alloc (Nat.le_refl _) _
      have HB2 := Lib.hid (HB1.out.trans (hal.mono HB1.out.size))
      have HROW := Lib.hid (hrow.below hal)
      have HA2 := Lib.hid (C.below HA.out HB2.out)
      have HC0 := Lib.hid (heap_alloc_new w1 (.cells #[.int .i64 (f : Int), .slice a0 xs.length c0, .bool false] 38))
      have hxl : xs.length ≤ 100000000 := by
        have h2 := (HFA.out (by trivial)).2.1
        rw [← hxs, ensOf_len] at h2
        omega
      have HXS := Lib.hid hxs
      have hwb := HB1.out.size
      obtain ⟨b, hbe⟩ : ∃ b, w1.heap.size = b := ⟨_, rfl⟩
      rw [hbe] at HC0 hwb
      have HBE := Lib.hid hbe
      clear hbe hal hb1 hrow hxs
      go_upto_region 2 with (fail)
      rw [HBE.out]
      generalize w1.alloc (.cells #[.int .i64 (f : Int), .slice a0 xs.length c0, .bool false] 38) = W at *
      have k0 := block_cell HC0.out 0
      have k1 := block_cell HC0.out 1
      have k2 := block_cell HC0.out 2
      simp only [List.getElem?_toArray, List.getElem?_cons_zero, List.getElem?_cons_succ] at k0 k1 k2
      go_wp2_with fail
      refine (upTo_l xs a0 c0 last W hxl HROW.out.reads).mono ?_
      rintro x w3 ⟨⟨k, rfl, hk, hu⟩, hb3⟩
      have HB3 := Lib.hid (HB2.out.trans (hb3.mono HB2.out.size))
      have HA3 := Lib.hid (C.below HA2.out hb3)
      have HROW3 := Lib.hid (HROW.out.below hb3)
      have HC3 := Lib.hid (block_below HC0.out hb3)
      have HU := Lib.hid hu
      have hs3 := lt_of_block HC3.out
      clear hb3 hu HA2 HB2 HROW HC0 k0 k1 k2
      have k0 := block_cell HC3.out 0
      have k1 := block_cell HC3.out 1
      have k2 := block_cell HC3.out 2
      simp only [List.getElem?_toArray, List.getElem?_cons_zero, List.getElem?_cons_succ] at k0 k1 k2
      have hke : ((k : Int) == (xs.length : Int)) = false := by
        rw [beq_eq_false_iff_ne]
        intro h2
        refine HC.out ⟨by trivial, ?_⟩
        rw [← HXS.out, HU.out, ensOf_len, ensOf_len, List.length_take]
        omega
      obtain ⟨ed, hed⟩ : ∃ ed, (D.delete temp l).1 = ed := ⟨_, rfl⟩
      have HDL := Lib.hid (show D.delete temp l = (ed, D.del temp l) by rw [← hed, ← delete_two])
      have HID := Lib.hid (show D.Inv room (D.del temp l) from HI.out.del)
      clear hed
      go_wp2_with fail
      refine (C.delete temp ed (D.del temp l) HA3.out HI.out (by omega) (by decide) HDL.out).mono ?_
      rintro x w4 ⟨rfl, ⟨S4, hA4, hg4⟩, hb4⟩
      have HA4 := Lib.hid hA4
      have HG4 := Lib.hid (hg4.wide HB3.out.size)
      have hnS : ∀ j, w.heap.size ≤ j → ¬ S j := fun j hj hs => by have := HLOW.out j hs; omega
      have HB4 := Lib.hid ((D.But.of_below HB3.out).trans hb4)
      have HROW4 := Lib.hid (HROW3.out.but hb4 hnS)
      have HC4 := Lib.hid (but_at hb4 HC3.out (hnS b hwb))
      clear hA4 hg4 hb4 hnS k0 k1 k2 HA3 HB3 HROW3 HC3 HDL
      have k0 := block_cell HC4.out 0
      simp only [List.getElem?_toArray, List.getElem?_cons_zero] at k0
      have hfar := (HFA.out (by trivial)).1.2
      go_wp2_with fail
      refine (headOf_l f w4 hfar).mono ?_
      rintro x w5 ⟨rfl, hb5⟩
      have HA5 := Lib.hid (C.below HA4.out hb5)
      have HB5 := Lib.hid (HB4.out.trans (D.But.of_below (S := S) hb5))
      have HROW5 := Lib.hid (HROW4.out.below hb5)
      have hs45 := hb5.size
      have hws5 := HB5.out.size
      clear hb5 HA4 HB4 HROW4 HC4
      obtain ⟨hp, hhp⟩ : ∃ hp, headP f = hp := ⟨_, rfl⟩
      have HHP := Lib.hid hhp
      rw [hhp]
      have hal : Below w5.heap.size w5 (w5.alloc (.cells #[.string (B hp)] 9)) := (Below.refl _ w5).alloc (Nat.le_refl _) _
      have HOWN := Lib.hid (show (w5.alloc (.cells #[.string (B hp)] 9)).ownsRow w5.heap.size 9 1 (.slice (some ⟨w5.heap.size, 0, none⟩) 1 1) 1 [.string (B hp)] from
        ⟨rfl, .inr ⟨w5.heap.size, 1, #[.string (B hp)], rfl, Nat.le_refl _, heap_alloc_new w5 _, Nat.le_refl _, by unfold maxLen; omega, rfl, rfl⟩⟩)
      have HLT5 := Lib.hid (show ∀ j, S4 j → j < w5.heap.size from fun j hj => (C.low HA5.out hj).2)
      have HA6 := Lib.hid (C.below HA5.out hal)
      have HB6 := Lib.hid (HB5.out.trans (D.But.of_below (S := S) hal))
      have HRK := Lib.hid (readsR_take (HROW5.out.below hal).reads hk)
      have HRTK := Lib.hid (show ∀ q ∈ xs.take k, R.right q.1 = true from fun q hq => (HROW5.out.ev q (List.mem_of_mem_take hq)).2.1)
      have htl : (xs.take k).length = k := by rw [List.length_take]; omega
      have hs56 : w5.heap.size ≤ (w5.alloc (.cells #[.string (B hp)] 9)).heap.size := hal.size
      clear hal hhp HA5 HB5
      go_wp2_with fail
      refine (bodyOf_l (xs.take k) _ _ (by omega) HRK.out HRTK.out).mono ?_
      rintro x w7 ⟨⟨vb, rfl, hown⟩, hb7⟩
      rw [htl] at hown
      have HB7 := Lib.hid (HB6.out.trans (D.But.of_below (S := S) hb7))
      have HA7 := Lib.hid (C.below HA6.out hb7)
      have HRB := Lib.hid (readsC_own hown)
      have HOW7 := Lib.hid (own_below HOWN.out hb7)
      have hs67 := hb7.size
      have hpn : (strCells ((ensOf (xs.take k)).map pay)).length = k := by rw [strCells_len, List.length_map, ensOf_len, htl]
      obtain ⟨vba, vbc, rfl⟩ := own_slice hown
      clear hb7 hown HA6 HB6 HOWN HRK
      obtain ⟨i0, hi, hz0, hz1, hz2⟩ := info_parts Tryz.infoStr
      go_upto_region 9 with (at_builtin; refine wpList_append_reads rfl _ _ 67 rfl w5.heap.size 9 i0 (.string ⟨#[]⟩) 16 Tryz.underlying67 hi hz0 hz1 hz2 rfl (.slice (some ⟨w5.heap.size, 0, none⟩) 1 1) 1 [.string (B hp)] rfl HOW7.out _ _ rfl HRB.out (by intro u hu; unfold strCells at hu; obtain ⟨z, _, rfl⟩ := List.mem_map.1 hu; rfl) (by rw [hpn]; unfold maxLen; omega) (by rw [hpn]; omega) (by omega) ?_; intro v8 w8 hown8 hgrow8; rw [hpn] at hown8; have HOWN8 := Lib.hid hown8; have HGR8 := Lib.hid (show w7.grownBy w8 (some w5.heap.size) from hgrow8); obtain ⟨va8, vc8, rfl⟩ := own_slice hown8; clear hown8 hgrow8)
      have hb8 : Below w5.heap.size w7 w8 := (Below.refl w5.heap.size w7).grown HGR8.out (by omega) fun j hj => by cases hj; exact Nat.le_refl _
      have HB8 := Lib.hid (show D.But S w w8 from ⟨HGR8.out.os.trans HB7.out.os, HGR8.out.tape.trans HB7.out.tape, HGR8.out.output.trans HB7.out.output, Nat.le_trans HB7.out.size HGR8.out.size, fun j hj hs => (hb8.block j (by omega)).trans (HB7.out.block j hj hs)⟩)
      have HA8 := Lib.hid (C.keep HA7.out HGR8.out.size fun j hj => HGR8.out.block j (C.low HA7.out hj).2 fun e => by
        have h2 := HLT5.out j hj
        have h3 : w5.heap.size = j := by cases e; rfl
        omega)
      have HU2 := Lib.hid (show upto last es0 = ensOf (xs.take k) by rw [← HXS.out]; exact HU.out)
      have HSEG := Lib.hid (show segB f (ensOf (xs.take k)) = F.frames (hp :: (ensOf (xs.take k)).map pay) by unfold segB rows; rw [HHP.out])
      have hsegl : (segB f (ensOf (xs.take k))).length ≤ room := by
        have h2 := (HFA.out (by trivial)).2.2.2
        have h3 := segB_take (f := f) (es := es0) k
        rw [← HXS.out, ← ensOf_take] at h3
        rw [← HXS.out] at h2
        omega
      have hrl := frames_ge (rows f (ensOf (xs.take k)))
      have HGD := Lib.hid (show ∀ q ∈ hp :: (ensOf (xs.take k)).map pay, F.good q from fun q hq => by
        refine rows_good (n := f) (es := ensOf (xs.take k)) hfar (fun z hz => ?_) q (by unfold rows; rw [HHP.out]; exact hq)
        unfold ensOf at hz
        obtain ⟨y2, hy2, rfl⟩ := List.mem_map.1 hz
        exact HRTK.out y2 hy2)
      have HRD8 := Lib.hid (show Reads w8 (.slice va8 (1 + k) vc8) (strCells (hp :: (ensOf (xs.take k)).map pay)) from reads_own HOWN8.out)
      have hrl2 : (hp :: (ensOf (xs.take k)).map pay).length ≤ 100000000 := by
        have e1 : (rows f (ensOf (xs.take k))).length = (hp :: (ensOf (xs.take k)).map pay).length := by unfold rows; rw [HHP.out]
        have e2 : F.frames (rows f (ensOf (xs.take k))) = segB f (ensOf (xs.take k)) := rfl
        rw [e2] at hrl
        omega
      have hfl2 : (F.frames (hp :: (ensOf (xs.take k)).map pay)).length ≤ 1000000000 := by rw [← HSEG.out]; omega
      have HBW := Lib.hid (show D.But S w w8 from HB8.out)
      have HGW := Lib.hid HG4.out
      clear hrl hsegl HOW7 HRB HOWN8 HGR8 hb8 hpn htl k0 HA7 HB7 HB8 HRTK HROW5
      obtain ⟨ps, hps⟩ : ∃ ps, hp :: (ensOf (xs.take k)).map pay = ps := ⟨_, rfl⟩
      rw [hps] at HSEG HGD HRD8 hrl2 hfl2
      rw [HU2.out, HSEG.out] at HAP
      have hee : (D.append room temp (F.frames ps) (D.del temp l)).1 = ee := by
        have := HEE0.out
        rw [HU2.out, HSEG.out] at this
        exact this
      have HWR := Lib.hid (show wrD room temp (F.frames ps) (D.del temp l) = (ee, D.del temp l) by
        unfold wrD
        rw [if_neg HAP.out, hee, D.del_none (D.find_del temp l)])
      have hei : ((ee : Int) == 0) = false := beq_eq_false_iff_ne.2 (by have := HAP.out; rw [hee] at this; omega)
      have hen : ¬ (ee : Int) = 0 := by have := HAP.out; rw [hee] at this; omega
      clear hee hps HAP
      go_wp2_with fail
      refine (write_l C temp ps _ ee (D.del temp l) HA8.out HID.out hroom (by decide) HRD8.out HGD.out hrl2 hfl2 HWR.out).mono ?_
      rintro x w9 ⟨rfl, ⟨S9, hA9, hg9⟩, hb9⟩
      have HR := Lib.hid (show (∃ S2, C.At bs w9 p room (D.del temp l) S2 ∧ D.Grow S w S2) ∧ D.But S w w9 from ⟨⟨S9, hA9, HGW.out.next hg9 HBW.out.size⟩, HBW.out.next hb9 HGW.out⟩)
      clear hA9 hg9 hb9
      go_wp2
      go_ret
      exact ⟨rfl, HR.out⟩
    · go_enter Tryz.func23, Tryz.ntmps23
      go_wp2_with fail
      refine HLD.out.mono ?_
      rintro x w1 ⟨⟨v0, xs, rfl, hxs, hrow⟩, hb1⟩
      obtain ⟨a0, c0, rfl⟩ := own_slice hrow.own
      have HB1 := Lib.hid hb1
      have hal : Below w1.heap.size w1 (w1.alloc (.cells #[.int .i64 (f : Int), .slice a0 xs.length c0, .bool true] 38)) := (Below.refl _ w1).alloc (Nat.le_refl _) _
      have HB2 := Lib.hid (HB1.out.trans (hal.mono HB1.out.size))
      have HROW := Lib.hid (hrow.below hal)
      have HA2 := Lib.hid (C.below HA.out HB2.out)
      have HC0 := Lib.hid (heap_alloc_new w1 (.cells #[.int .i64 (f : Int), .slice a0 xs.length c0, .bool true] 38))
      have hxl : xs.length ≤ 100000000 := by
        have h2 := (HFA.out (by trivial)).2.1
        rw [← hxs, ensOf_len] at h2
        omega
      have HXS := Lib.hid hxs
      have hwb := HB1.out.size
      obtain ⟨b, hbe⟩ : ∃ b, w1.heap.size = b := ⟨_, rfl⟩
      rw [hbe] at HC0 hwb
      have HBE := Lib.hid hbe
      clear hbe hal hb1 hrow hxs
      go_upto_region 2 with (fail)
      rw [HBE.out]
      generalize w1.alloc (.cells #[.int .i64 (f : Int), .slice a0 xs.length c0, .bool true] 38) = W at *
      have k0 := block_cell HC0.out 0
      have k1 := block_cell HC0.out 1
      have k2 := block_cell HC0.out 2
      simp only [List.getElem?_toArray, List.getElem?_cons_zero, List.getElem?_cons_succ] at k0 k1 k2
      go_wp2_with fail
      refine (upTo_l xs a0 c0 last W hxl HROW.out.reads).mono ?_
      rintro x w3 ⟨⟨k, rfl, hk, hu⟩, hb3⟩
      have HB3 := Lib.hid (HB2.out.trans (hb3.mono HB2.out.size))
      have HA3 := Lib.hid (C.below HA2.out hb3)
      have HROW3 := Lib.hid (HROW.out.below hb3)
      have HC3 := Lib.hid (block_below HC0.out hb3)
      have HU := Lib.hid hu
      have hs3 := lt_of_block HC3.out
      clear hb3 hu HA2 HB2 HROW HC0 k0 k1 k2
      have k0 := block_cell HC3.out 0
      have k1 := block_cell HC3.out 1
      have k2 := block_cell HC3.out 2
      simp only [List.getElem?_toArray, List.getElem?_cons_zero, List.getElem?_cons_succ] at k0 k1 k2
      obtain ⟨ed, hed⟩ : ∃ ed, (D.delete temp l).1 = ed := ⟨_, rfl⟩
      have HDL := Lib.hid (show D.delete temp l = (ed, D.del temp l) by rw [← hed, ← delete_two])
      have HID := Lib.hid (show D.Inv room (D.del temp l) from HI.out.del)
      clear hed
      go_wp2_with fail
      refine (C.delete temp ed (D.del temp l) HA3.out HI.out (by omega) (by decide) HDL.out).mono ?_
      rintro x w4 ⟨rfl, ⟨S4, hA4, hg4⟩, hb4⟩
      have HA4 := Lib.hid hA4
      have HG4 := Lib.hid (hg4.wide HB3.out.size)
      have hnS : ∀ j, w.heap.size ≤ j → ¬ S j := fun j hj hs => by have := HLOW.out j hs; omega
      have HB4 := Lib.hid ((D.But.of_below HB3.out).trans hb4)
      have HROW4 := Lib.hid (HROW3.out.but hb4 hnS)
      have HC4 := Lib.hid (but_at hb4 HC3.out (hnS b hwb))
      clear hA4 hg4 hb4 hnS k0 k1 k2 HA3 HB3 HROW3 HC3 HDL
      have k0 := block_cell HC4.out 0
      simp only [List.getElem?_toArray, List.getElem?_cons_zero] at k0
      have hfar := (HFA.out (by trivial)).1.2
      go_wp2_with fail
      refine (headOf_l f w4 hfar).mono ?_
      rintro x w5 ⟨rfl, hb5⟩
      have HA5 := Lib.hid (C.below HA4.out hb5)
      have HB5 := Lib.hid (HB4.out.trans (D.But.of_below (S := S) hb5))
      have HROW5 := Lib.hid (HROW4.out.below hb5)
      have hs45 := hb5.size
      have hws5 := HB5.out.size
      clear hb5 HA4 HB4 HROW4 HC4
      obtain ⟨hp, hhp⟩ : ∃ hp, headP f = hp := ⟨_, rfl⟩
      have HHP := Lib.hid hhp
      rw [hhp]
      have hal : Below w5.heap.size w5 (w5.alloc (.cells #[.string (B hp)] 9)) := (Below.refl _ w5).alloc (Nat.le_refl _) _
      have HOWN := Lib.hid (show (w5.alloc (.cells #[.string (B hp)] 9)).ownsRow w5.heap.size 9 1 (.slice (some ⟨w5.heap.size, 0, none⟩) 1 1) 1 [.string (B hp)] from
        ⟨rfl, .inr ⟨w5.heap.size, 1, #[.string (B hp)], rfl, Nat.le_refl _, heap_alloc_new w5 _, Nat.le_refl _, by unfold maxLen; omega, rfl, rfl⟩⟩)
      have HLT5 := Lib.hid (show ∀ j, S4 j → j < w5.heap.size from fun j hj => (C.low HA5.out hj).2)
      have HA6 := Lib.hid (C.below HA5.out hal)
      have HB6 := Lib.hid (HB5.out.trans (D.But.of_below (S := S) hal))
      have HRK := Lib.hid (readsR_take (HROW5.out.below hal).reads hk)
      have HRTK := Lib.hid (show ∀ q ∈ xs.take k, R.right q.1 = true from fun q hq => (HROW5.out.ev q (List.mem_of_mem_take hq)).2.1)
      have htl : (xs.take k).length = k := by rw [List.length_take]; omega
      have hs56 : w5.heap.size ≤ (w5.alloc (.cells #[.string (B hp)] 9)).heap.size := hal.size
      clear hal hhp HA5 HB5
      go_wp2_with fail
      refine (bodyOf_l (xs.take k) _ _ (by omega) HRK.out HRTK.out).mono ?_
      rintro x w7 ⟨⟨vb, rfl, hown⟩, hb7⟩
      rw [htl] at hown
      have HB7 := Lib.hid (HB6.out.trans (D.But.of_below (S := S) hb7))
      have HA7 := Lib.hid (C.below HA6.out hb7)
      have HRB := Lib.hid (readsC_own hown)
      have HOW7 := Lib.hid (own_below HOWN.out hb7)
      have hs67 := hb7.size
      have hpn : (strCells ((ensOf (xs.take k)).map pay)).length = k := by rw [strCells_len, List.length_map, ensOf_len, htl]
      obtain ⟨vba, vbc, rfl⟩ := own_slice hown
      clear hb7 hown HA6 HB6 HOWN HRK
      obtain ⟨i0, hi, hz0, hz1, hz2⟩ := info_parts Tryz.infoStr
      go_upto_region 9 with (at_builtin; refine wpList_append_reads rfl _ _ 67 rfl w5.heap.size 9 i0 (.string ⟨#[]⟩) 16 Tryz.underlying67 hi hz0 hz1 hz2 rfl (.slice (some ⟨w5.heap.size, 0, none⟩) 1 1) 1 [.string (B hp)] rfl HOW7.out _ _ rfl HRB.out (by intro u hu; unfold strCells at hu; obtain ⟨z, _, rfl⟩ := List.mem_map.1 hu; rfl) (by rw [hpn]; unfold maxLen; omega) (by rw [hpn]; omega) (by omega) ?_; intro v8 w8 hown8 hgrow8; rw [hpn] at hown8; have HOWN8 := Lib.hid hown8; have HGR8 := Lib.hid (show w7.grownBy w8 (some w5.heap.size) from hgrow8); obtain ⟨va8, vc8, rfl⟩ := own_slice hown8; clear hown8 hgrow8)
      have hb8 : Below w5.heap.size w7 w8 := (Below.refl w5.heap.size w7).grown HGR8.out (by omega) fun j hj => by cases hj; exact Nat.le_refl _
      have HB8 := Lib.hid (show D.But S w w8 from ⟨HGR8.out.os.trans HB7.out.os, HGR8.out.tape.trans HB7.out.tape, HGR8.out.output.trans HB7.out.output, Nat.le_trans HB7.out.size HGR8.out.size, fun j hj hs => (hb8.block j (by omega)).trans (HB7.out.block j hj hs)⟩)
      have HA8 := Lib.hid (C.keep HA7.out HGR8.out.size fun j hj => HGR8.out.block j (C.low HA7.out hj).2 fun e => by
        have h2 := HLT5.out j hj
        have h3 : w5.heap.size = j := by cases e; rfl
        omega)
      have HU2 := Lib.hid (show upto last es0 = ensOf (xs.take k) by rw [← HXS.out]; exact HU.out)
      have HSEG := Lib.hid (show segB f (ensOf (xs.take k)) = F.frames (hp :: (ensOf (xs.take k)).map pay) by unfold segB rows; rw [HHP.out])
      have hsegl : (segB f (ensOf (xs.take k))).length ≤ room := by
        have h2 := (HFA.out (by trivial)).2.2.2
        have h3 := segB_take (f := f) (es := es0) k
        rw [← HXS.out, ← ensOf_take] at h3
        rw [← HXS.out] at h2
        omega
      have hrl := frames_ge (rows f (ensOf (xs.take k)))
      have HGD := Lib.hid (show ∀ q ∈ hp :: (ensOf (xs.take k)).map pay, F.good q from fun q hq => by
        refine rows_good (n := f) (es := ensOf (xs.take k)) hfar (fun z hz => ?_) q (by unfold rows; rw [HHP.out]; exact hq)
        unfold ensOf at hz
        obtain ⟨y2, hy2, rfl⟩ := List.mem_map.1 hz
        exact HRTK.out y2 hy2)
      have HRD8 := Lib.hid (show Reads w8 (.slice va8 (1 + k) vc8) (strCells (hp :: (ensOf (xs.take k)).map pay)) from reads_own HOWN8.out)
      have hrl2 : (hp :: (ensOf (xs.take k)).map pay).length ≤ 100000000 := by
        have e1 : (rows f (ensOf (xs.take k))).length = (hp :: (ensOf (xs.take k)).map pay).length := by unfold rows; rw [HHP.out]
        have e2 : F.frames (rows f (ensOf (xs.take k))) = segB f (ensOf (xs.take k)) := rfl
        rw [e2] at hrl
        omega
      have hfl2 : (F.frames (hp :: (ensOf (xs.take k)).map pay)).length ≤ 1000000000 := by rw [← HSEG.out]; omega
      have HBW := Lib.hid (show D.But S w w8 from HB8.out)
      have HGW := Lib.hid HG4.out
      clear hrl hsegl HOW7 HRB HOWN8 HGR8 hb8 hpn htl k0 HA7 HB7 HB8 HRTK HROW5
      obtain ⟨ps, hps⟩ : ∃ ps, hp :: (ensOf (xs.take k)).map pay = ps := ⟨_, rfl⟩
      rw [hps] at HSEG HGD HRD8 hrl2 hfl2
      rw [HU2.out, HSEG.out] at HAP
      have hee : (D.append room temp (F.frames ps) (D.del temp l)).1 = ee := by
        have := HEE0.out
        rw [HU2.out, HSEG.out] at this
        exact this
      have HWR := Lib.hid (show wrD room temp (F.frames ps) (D.del temp l) = (ee, D.del temp l) by
        unfold wrD
        rw [if_neg HAP.out, hee, D.del_none (D.find_del temp l)])
      have hei : ((ee : Int) == 0) = false := beq_eq_false_iff_ne.2 (by have := HAP.out; rw [hee] at this; omega)
      have hen : ¬ (ee : Int) = 0 := by have := HAP.out; rw [hee] at this; omega
      clear hee hps HAP
      go_wp2_with fail
      refine (write_l C temp ps _ ee (D.del temp l) HA8.out HID.out hroom (by decide) HRD8.out HGD.out hrl2 hfl2 HWR.out).mono ?_
      rintro x w9 ⟨rfl, ⟨S9, hA9, hg9⟩, hb9⟩
      have HR := Lib.hid (show (∃ S2, C.At bs w9 p room (D.del temp l) S2 ∧ D.Grow S w S2) ∧ D.But S w w9 from ⟨⟨S9, hA9, HGW.out.next hg9 HBW.out.size⟩, HBW.out.next hb9 HGW.out⟩)
      clear hA9 hg9 hb9
      go_wp2
      go_ret
      exact ⟨rfl, HR.out⟩
/-- The landed package, over any disk that keeps its contracts. -/
theorem landed (C : D.DC) : SC C where
  name := fun {w} z hz hT => Name_l z w hz hT
  number := fun {w} s hs hT => Number_l s w hs hT
  create := fun n first e l2 hA hI hr _ h1 h9 hf H => Create_l C n first e l2 hA hI hr h1 h9 hf H
  add := fun n es v e l2 hA hI hr _ h1 h9 hv hl hs H => Add_l C n es v e l2 hA hI hr h1 h9 hv hl hs H
  load := fun {bs w p room l S} n e f es t hA hI hr _ h9 H => (Load_x C n e f es t hA hI hr h9 H).mono fun x w' ⟨⟨v, xs, a, b, c⟩, d⟩ =>
    ⟨⟨v, xs, a, b, fun w2 hb => (c.but hb fun k hk hs => by have := (C.low hA hs).2; omega).reads⟩, d⟩
  cut := fun n last e l2 hA hI hr _ h1 h9 _ H => Cut_l C n last e l2 hA hI hr h1 h9 H
end Go.Proofs.YtmfhipjceeijmaaGreatDoor.G
