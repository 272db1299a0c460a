/-
  Walks of package record: epochsBy, partedBy, and the closure that tells whether two logs part.
-/
import Derived.Test.YtfhopgficckjkaaRecordClos
import Derived.Deep.RegionHeld3
import Derived.Laws.EntriesVeiled
namespace Go.Proofs.Ytfhopgficckjkaa
open Go.RowKit
attribute [local go_sem] ext_Bd ext_Bl ext_Bt toList_B add_B size_B get_Bt

abbrev cloE (g1 g2 : Nat) : Value := .func (.func 79) #[] #[.pointer (some ⟨g1, 0, none⟩), .pointer (some ⟨g2, 0, none⟩)]
abbrev cloP (g1 g2 : Nat) : Value := .func (.func 62) #[] #[.pointer (some ⟨g1, 0, none⟩), .pointer (some ⟨g2, 0, none⟩)]
theorem ep_start {w w1 : World} {u : Value} {K : List R.Mk} (hown : w1.ownsRow w.heap.size 52 2 u K.length (mkCells K)) (hb : Below w.heap.size w w1) (p : Int) :
    EpAt ((w1.alloc (.cells #[u] 35)).alloc (.cells #[.int .i64 0] 3)) w.heap.size w1.heap.size (w1.heap.size + 1) K p := by
  have hA : ∀ k, k < w1.heap.size → ((w1.alloc (.cells #[u] 35)).alloc (.cells #[.int .i64 0] 3)).heap[k]? = w1.heap[k]? := fun k hk => by
    rw [Below.heap_alloc _ _ _ (by simp; omega), Below.heap_alloc _ _ _ hk]
  have e1 : ((w1.alloc (.cells #[u] 35)).alloc (.cells #[.int .i64 0] 3)).heap[w1.heap.size + 1]? = some (.cells #[.int .i64 0] 3 (0, 0)) := by
    have := heap_alloc_new (w1.alloc (.cells #[u] 35)) (.cells #[.int .i64 0] 3)
    rwa [World.size_alloc] at this
  have e2 : ((w1.alloc (.cells #[u] 35)).alloc (.cells #[.int .i64 0] 3)).heap[w1.heap.size]? = some (.cells #[u] 35 (0, 0)) := by
    rw [Below.heap_alloc _ _ _ (by simp)]
    exact heap_alloc_new w1 _
  obtain ⟨a, cap, hv, hc⟩ := own_slice hown
  refine ⟨⟨hb.size, Nat.lt_succ_self _⟩, 0, 0, a, cap, R.seen_start K p, e1, ?_, by omega, fun i hi => ?_⟩
  · rw [e2, hv, Nat.sub_zero]
  · have hi2 : i < K.length := by omega
    obtain ⟨g, cap2, hv2, _, c0, c1⟩ := own_mark hown i hi2
    have hlt := hown.lt g (by rw [hv2]; rfl)
    rw [hv] at hv2
    cases hv2
    have e3 : K[0 + i] = K[i] := by congr 1; omega
    rw [e3]
    refine ⟨g, 0, rfl, hlt.1, hlt.2, ?_, ?_⟩
    · rw [Nat.zero_add]; exact cell_same c0 (hA g hlt.2)
    · rw [Nat.zero_add]; exact cell_same c1 (hA g hlt.2)

set_option maxHeartbeats 1000000 in
set_option maxRecDepth 100000 in
theorem epochsBy_l (ms : List R.Mk) (v : Value) (w : World) (hv : ReadsM w v ms) (hl : ms.length ≤ 1000) :
    Calls Try.prog 61 #[v] w fun r w' => ∃ K g1, r = .returned (cloE g1 (g1 + 1)) ∧ R.Good K ms ∧ (∀ p, EpAt w' w.heap.size g1 (g1 + 1) K p) ∧ g1 + 1 < w'.heap.size ∧ Below w.heap.size w w' := by
  have hmf : ∀ (fn : Fn) (first cap : Array Value) (w : World), (Instr.makeFunc fn first cap).run Try.prog w = .ok (.func fn first cap) w := fun _ _ _ _ => rfl
  go_enter Try.func61, Try.ntmps61
  go_wp2_with fail
  refine (inForce_l ms v w hv hl).mono ?_
  rintro x w1 ⟨u, K, rfl, hown, hg, hb⟩
  have HO := Lib.hid hown
  have HG := Lib.hid hg
  have HB := Lib.hid hb
  obtain ⟨a, cap, rfl, _⟩ := own_slice hown
  clear hown hg hb
  go_wp2
  go_ret
  refine ⟨K, w1.heap.size, rfl, HG.out, fun p => ep_start HO.out HB.out p, by simp, (HB.out.alloc HB.out.size _).alloc (by have := HB.out.size; simp; omega) _⟩

/-- What the closure of partedBy has seen of two logs. -/
structure PartAt (w : World) (lo h1 h2 : Nat) (a b : List R.Mk) (p : Int) : Prop where
  st : ∃ la g1 lb k1 KA KB, lo ≤ la ∧ g1 + 1 < lb ∧ k1 + 1 < h1 ∧ h1 < h2 ∧ R.Good KA a ∧ R.Good KB b ∧ EpAt w la g1 (g1 + 1) KA p ∧ EpAt w lb k1 (k1 + 1) KB p ∧ w.heap[h1]? = some (.cells #[cloE g1 (g1 + 1)] 90 (0, 0)) ∧ w.heap[h2]? = some (.cells #[cloE k1 (k1 + 1)] 90 (0, 0))
/-- What calls of both closures keep. -/
def PK (w0 : World) (la g1 lb k1 h1 h2 : Nat) (KA KB : List R.Mk) (p : Int) (a : World) : Prop :=
  EpAt a la g1 (g1 + 1) KA p ∧ EpAt a lb k1 (k1 + 1) KB p ∧ a.heap[h1]? = some (.cells #[cloE g1 (g1 + 1)] 90 (0, 0)) ∧ a.heap[h2]? = some (.cells #[cloE k1 (k1 + 1)] 90 (0, 0)) ∧ (g1 + 1 < lb ∧ k1 + 1 < h1 ∧ h1 < h2) ∧ But (fun k => la ≤ k ∧ k ≤ h2) w0 a
section
variable {w0 a b : World} {la g1 lb k1 h1 h2 : Nat} {KA KB : List R.Mk} {p : Int} {x y : Value}
abbrev PS (w0 : World) (la g1 lb k1 h1 h2 : Nat) (KA KB : List R.Mk) (p : Int) (a : World) : Prop := a.cell? ⟨h1, 0, none⟩ = some (cloE g1 (g1 + 1)) ∧ a.cell? ⟨h2, 0, none⟩ = some (cloE k1 (k1 + 1)) ∧ PK w0 la g1 lb k1 h1 h2 KA KB p a
theorem pk_of (h : PK w0 la g1 lb k1 h1 h2 KA KB p a) : PS w0 la g1 lb k1 h1 h2 KA KB p a := ⟨cell_of_one h.2.2.1, cell_of_one h.2.2.2.1, h⟩
theorem ps_drew (h : PS w0 la g1 lb k1 h1 h2 KA KB p a) : PS w0 la g1 lb k1 h1 h2 KA KB p a.drew := by
  obtain ⟨c1, c2, e1, e2, b1, b2, ho, hb⟩ := h
  exact ⟨c1, c2, e1.keep fun _ _ _ => rfl, e2.keep fun _ _ _ => rfl, b1, b2, ho, ⟨hb.os, hb.tape, hb.output, hb.size, hb.block⟩⟩
theorem ps_a (h : PS w0 la g1 lb k1 h1 h2 KA KB p a) : EpAt a la g1 (g1 + 1) KA p := h.2.2.1
theorem ps_b (h : PS w0 la g1 lb k1 h1 h2 KA KB p a) : EpAt a lb k1 (k1 + 1) KB p := h.2.2.2.1
theorem ps_callA (h : PS w0 la g1 lb k1 h1 h2 KA KB p a) (he : EpAt b la g1 (g1 + 1) KA p) (hb : But (fun k => k = g1 ∨ k = g1 + 1) a b) : PS w0 la g1 lb k1 h1 h2 KA KB p b := by
  obtain ⟨-, -, e1, e2, b1, b2, ho, hbb⟩ := h
  have o1 := e1.ord
  have o2 := e2.ord
  have hl1 := lt_of_block b1
  have hl2 := lt_of_block b2
  refine pk_of ⟨he, e2.keep fun k h1 h2 => hb.block k (by omega) (by omega), hb.at b1 (by omega), hb.at b2 (by omega), ho, hbb.trans (hb.mono fun k hk => by omega)⟩
theorem ps_callB (h : PS w0 la g1 lb k1 h1 h2 KA KB p a) (he : EpAt b lb k1 (k1 + 1) KB p) (hb : But (fun k => k = k1 ∨ k = k1 + 1) a b) : PS w0 la g1 lb k1 h1 h2 KA KB p b := by
  obtain ⟨-, -, e1, e2, b1, b2, ho, hbb⟩ := h
  have o1 := e1.ord
  have o2 := e2.ord
  have hl1 := lt_of_block b1
  have hl2 := lt_of_block b2
  refine pk_of ⟨e1.keep fun k h1 h2 => hb.block k (by omega) (by omega), he, hb.at b1 (by omega), hb.at b2 (by omega), ho, hbb.trans (hb.mono fun k hk => by omega)⟩
end

set_option maxHeartbeats 2000000 in
set_option maxRecDepth 100000 in
theorem parted_ask (w : World) (lo h1 h2 : Nat) (a b : List R.Mk) (p0 p : Int) (r : Bool) (h : PartAt w lo h1 h2 a b p0) (hp : p0 ≤ p) (H : Hid (R.agree a b p = r)) :
    Calls Try.prog 62 #[.int .i64 p, .pointer (some ⟨h1, 0, none⟩), .pointer (some ⟨h2, 0, none⟩)] w fun x w' => x = .returned (.bool !r) ∧ PartAt w' lo h1 h2 a b p ∧ But (fun k => lo ≤ k ∧ k ≤ h2) w w' := by
  obtain ⟨la, g1, lb, k1, KA, KB, hlo, ho1, ho2, ho3, hga, hgb, ea, eb, b1, b2⟩ := h
  obtain ⟨x, HX⟩ : ∃ x, Hid (R.epochAt KA p = x) := ⟨_, Lib.hid rfl⟩
  obtain ⟨y, HY⟩ : ∃ y, Hid (R.epochAt KB p = y) := ⟨_, Lib.hid rfl⟩
  have HR : Hid (r = (decide (x = y) && decide (x ≠ 0))) := Lib.hid (by rw [← H.out]; unfold R.agree; rw [← hga.2 p, ← hgb.2 p, HX.out, HY.out])
  have hS : PS w la g1 lb k1 h1 h2 KA KB p w := pk_of ⟨ea.later hp, eb.later hp, b1, b2, ⟨ho1, ho2, ho3⟩, But.refl _ _⟩
  have HRA := Lib.hid hga.1
  have HRB := Lib.hid hgb.1
  have HF : Hid (∀ w', PS w la g1 lb k1 h1 h2 KA KB p w' → PartAt w' lo h1 h2 a b p ∧ But (fun k => lo ≤ k ∧ k ≤ h2) w w') := Lib.hid fun w' h => by
    obtain ⟨-, -, e1, e2, b1, b2, ho, hbb⟩ := h
    exact ⟨⟨la, g1, lb, k1, KA, KB, hlo, ho1, ho2, ho3, hga, hgb, e1, e2, b1, b2⟩, hbb.mono fun k hk => ⟨Nat.le_trans hlo hk.1, hk.2⟩⟩
  clear ea eb b1 b2 hga hgb H hlo ho1 ho2 ho3
  go_enter Try.func62, Try.ntmps62
  go_wp2
  go_region_held3 (fun w' => PS w la g1 lb k1 h1 h2 KA KB p w')
    (first | assumption | exact ps_drew (by assumption) | exact ps_callA (by assumption) (by assumption) (by assumption) | exact ps_callB (by assumption) (by assumption) (by assumption))
    (first
      | (go_at_call 79; with_reducible refine (epoch_ask _ la g1 (g1 + 1) KA p p x HRA.out (ps_a (by assumption)) (Int.le_refl _) HX).mono ?_; rintro z4 w4 ⟨rfl, he4, hb4⟩)
      | (go_at_call 79; with_reducible refine (epoch_ask _ lb k1 (k1 + 1) KB p p y HRB.out (ps_b (by assumption)) (Int.le_refl _) HY).mono ?_; rintro z5 w5 ⟨rfl, he5, hb5⟩)
      | fail)
  rename_i hHeld
  have HH := Lib.hid (HF.out _ hHeld)
  clear hHeld hS
  by_cases hxy : x = y
  · subst hxy
    by_cases h0 : x = 0
    · subst h0
      go_wp2
      go_ret
      rw [HR.out]
      exact ⟨rfl, HH.out⟩
    · have hi0 : (x == 0) = false := beq_eq_false_iff_ne.2 h0
      have HE := Lib.hid (show (!r) = false by rw [HR.out]; simp [h0])
      clear h0
      go_wp2
      go_ret
      rw [HE.out]
      exact ⟨rfl, HH.out⟩
  · have hxi : (x == y) = false := beq_eq_false_iff_ne.2 hxy
    have hxn : (x != y) = true := by simp [hxy]
    have HE := Lib.hid (show (!r) = true by rw [HR.out]; simp [hxy])
    clear hxy
    go_wp2
    go_ret
    rw [HE.out]
    exact ⟨rfl, HH.out⟩

set_option maxHeartbeats 1000000 in
set_option maxRecDepth 100000 in
theorem partedBy_l (a b : List R.Mk) (va vb : Value) (w : World) (ha : ReadsM w va a) (hb : ReadsM w vb b) (hl : a.length ≤ 1000) (hl2 : b.length ≤ 1000) :
    Calls Try.prog 44 #[va, vb] w fun r w' => ∃ h1, r = .returned (cloP h1 (h1 + 1)) ∧ (∀ p, PartAt w' w.heap.size h1 (h1 + 1) a b p) ∧ h1 + 1 < w'.heap.size ∧ Below w.heap.size w w' := by
  have hmf : ∀ (fn : Fn) (first cap : Array Value) (w : World), (Instr.makeFunc fn first cap).run Try.prog w = .ok (.func fn first cap) w := fun _ _ _ _ => rfl
  have HV := Lib.hid hb
  clear hb
  go_enter Try.func44, Try.ntmps44
  go_wp2_with fail
  refine (epochsBy_l a va w ha hl).mono ?_
  rintro x w1 ⟨KA, g1, rfl, hga, hea, hg1, hb1⟩
  have HGA := Lib.hid hga
  have HEA := Lib.hid hea
  have HB1 := Lib.hid hb1
  clear hga hea hb1
  go_wp2_with fail
  refine (epochsBy_l b vb w1 (readsM_below HV.out HB1.out) hl2).mono ?_
  rintro x w2 ⟨KB, k1, rfl, hgb, heb, hk1, hb2⟩
  have HGB := Lib.hid hgb
  have HEB := Lib.hid heb
  have HB2 := Lib.hid hb2
  clear hgb heb hb2
  dsimp only [cloE]
  go_wp2
  go_ret
  have hw1 := HB1.out.size
  have hw2 := HB2.out.size
  have hA : ∀ k o1 o2, k < w2.heap.size → ((w2.alloc o1).alloc o2).heap[k]? = w2.heap[k]? := fun k o1 o2 hk => by
    rw [Below.heap_alloc _ _ _ (by simp; omega), Below.heap_alloc _ _ _ hk]
  refine ⟨w2.heap.size, rfl, fun p => ⟨w.heap.size, g1, w1.heap.size, k1, KA, KB, Nat.le_refl _, hg1, hk1, Nat.lt_succ_self _, HGA.out, HGB.out, ?_, ?_, ?_, ?_⟩, by simp, ((HB1.out.trans (HB2.out.mono hw1)).alloc (by omega) _).alloc (by simp; omega) _⟩
  · exact (HEA.out p).keep fun k _ hk => (hA k _ _ (by omega)).trans (HB2.out.block k (by omega))
  · exact (HEB.out p).keep fun k _ hk => hA k _ _ (by omega)
  · rw [Below.heap_alloc _ _ _ (by simp)]
    exact heap_alloc_new w2 _
  · have := heap_alloc_new (w2.alloc (.cells #[cloE g1 (g1 + 1)] 90)) (.cells #[cloE k1 (k1 + 1)] 90)
    rwa [World.size_alloc] at this
end Go.Proofs.Ytfhopgficckjkaa
