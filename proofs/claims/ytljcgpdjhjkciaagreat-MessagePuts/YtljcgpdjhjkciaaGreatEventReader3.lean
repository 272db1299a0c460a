/-
  Walks of Take and TakeBatch of package event.
-/
import Derived.Test.YtljcgpdjhjkciaaGreatEventReader2
namespace Go.Proofs.YtljcgpdjhjkciaaGreat
open Go.RowKit
attribute [local go_sem] ext_Bd ext_Bl ext_Bt toList_B add_B size_B get_Bt

/-- What is taken: an event, what is behind, and the error. -/
def evRes (o : K.Rd E.Ev) : E.Ev × List UInt8 × Nat :=
  match o with
  | Sum.inl (e, r) => (e, r, 0)
  | Sum.inr c => (([], []), [], c)
def batRes (o : K.Rd E.Bat) : E.Bat × List UInt8 × Nat :=
  match o with
  | Sum.inl (b, r) => (b, r, 0)
  | Sum.inr c => (⟨[], 0, 0, 0, []⟩, [], c)

theorem three_new (w : World) (A R F : Obj) : (((w.alloc A).alloc R).alloc F).heap[w.heap.size]? = some A ∧ (((w.alloc A).alloc R).alloc F).heap[w.heap.size + 1]? = some R ∧ (((w.alloc A).alloc R).alloc F).heap[w.heap.size + 1 + 1]? = some F ∧ Below w.heap.size w (((w.alloc A).alloc R).alloc F) := by
  refine ⟨?_, ?_, ?_, (((Below.refl _ w).alloc (Nat.le_refl _) A).alloc (by simp) R).alloc (by simp; omega) F⟩
  · rw [Below.heap_alloc _ _ _ (by simp; omega), Below.heap_alloc _ _ _ (by simp)]; exact World.alloc_heap_new w A
  · rw [Below.heap_alloc _ _ _ (by simp)]
    have := World.alloc_heap_new (w.alloc A) R
    rwa [World.size_alloc] at this
  · have := World.alloc_heap_new ((w.alloc A).alloc R) F
    rwa [World.size_alloc, World.size_alloc] at this
/-- A block that calls left as it was. -/
theorem block_kept {w w' : World} {g h : Nat} {o : Obj} (ho : w.heap[h]? = some o) (hg : w.grownBy w' (some g)) (hne : h ≠ g) : w'.heap[h]? = some o :=
  (hg.block h (Array.getElem?_eq_some_iff.1 ho).1 (by simpa using hne)).trans ho
theorem block_below {w w' : World} {h : Nat} {o : Obj} (ho : w.heap[h]? = some o) (hb : Below w.heap.size w w') : w'.heap[h]? = some o :=
  (hb.block h (Array.getElem?_eq_some_iff.1 ho).1).trans ho
theorem block_cell {w : World} {h : Nat} {cs : Array Value} {t : TypeId} (ho : w.heap[h]? = some (.cells cs t (0, 0))) (j : Nat) : w.cell? ⟨h, j, none⟩ = cs[j]? := by simp [World.cell?, ho]
theorem block_loose {w : World} {h : Nat} {cs : Array Value} {t : TypeId} (ho : w.heap[h]? = some (.cells cs t (0, 0))) (j : Nat) : w.frozen? ⟨h, j, none⟩ = false := by simp [World.frozen?, ho]
theorem set_two {w : World} {g : Nat} {x y a b : Value} {t : TypeId} (h : w.heap[g]? = some (.cells #[x, y] t (0, 0))) : ((w.setCell ⟨g, 0, none⟩ a).setCell ⟨g, 1, none⟩ b).cell? ⟨g, 0, none⟩ = some a ∧ ((w.setCell ⟨g, 0, none⟩ a).setCell ⟨g, 1, none⟩ b).cell? ⟨g, 1, none⟩ = some b := by
  have h2 : ((w.setCell ⟨g, 0, none⟩ a).setCell ⟨g, 1, none⟩ b).heap[g]? = some (.cells #[a, b] t (0, 0)) := set_block (set_block h 0 a) 1 b
  exact ⟨block_cell h2 0, block_cell h2 1⟩
theorem takeEv_bad {l : List UInt8} {c : Nat} (h : E.parts l = Sum.inr c) : E.takeEv l = Sum.inr c := K.bind_bad _ h
theorem takeEv_ok {l r : List UInt8} {e : E.Ev} (h : E.parts l = Sum.inl (e, r)) (hr : E.right e = true) : E.takeEv l = Sum.inl (e, r) := (K.bind_ok _ h).trans (if_pos hr)
theorem takeEv_form {l r : List UInt8} {e : E.Ev} (h : E.parts l = Sum.inl (e, r)) (hr : E.right e = false) : E.takeEv l = Sum.inr 2 := (K.bind_ok _ h).trans (if_neg (by rw [hr]; decide))
theorem parts_small {l q : List UInt8} {e : E.Ev} (h : E.parts l = Sum.inl (e, q)) : e.1.length ≤ 200 ∧ e.2.length ≤ 200 := (E.partsC.inv l e q h).2

set_option maxHeartbeats 4000000 in
set_option maxRecDepth 100000 in
theorem ETake_at (s : List UInt8) (e : E.Ev) (r : List UInt8) (c : Nat) (w : World) (hs : s.length ≤ 1000000) (H : Hid (evRes (E.takeEv s) = (e, r, c))) :
    Calls Tryz.prog 84 #[.string (B s)] w fun x w' => x = .returned (.tuple #[evV e, .string (B r), .int .i64 c]) ∧ Below w.heap.size w w' := by
  have hmf : ∀ (fn : Fn) (first cap : Array Value) (w : World), (Instr.makeFunc fn first cap).run Tryz.prog w = .ok (.func fn first cap) w := fun _ _ _ _ => rfl
  obtain ⟨hA, hR, hF, hB⟩ := three_new w (.cells #[.string (B []), .string (B [])] 55) (.cells #[.string (B s), .string (B []), .string (B []), .string (B []), .int .i64 0, .int .i64 0, .int .i64 0, .slice none 0 0] 162)
    (.cells #[mV 95 (w.heap.size + 1), mV 96 (w.heap.size + 1)] 164)
  have HA := Lib.hid hA
  have HF := Lib.hid hF
  have HB := Lib.hid hB
  have HR := Lib.hid (show RdAt _ (w.heap.size + 1) s [] [] [] 0 0 0 (.slice none 0 0) from hR)
  clear hA hR hF hB
  go_enter Tryz.func84, Tryz.ntmps84
  go_wp2_with fail
  refine (rd_pair (g := w.heap.size + 1) (gs := w.heap.size + 1 + 1) HR.out hs HF.out (by omega)).mono ?_
  rintro x w1 ⟨hg, hres⟩
  have HA1 := Lib.hid (block_kept HA.out hg (by omega))
  have hb1 : Below w.heap.size w w1 := HB.out.grown hg HB.out.size (fun k hk => by cases hk; omega)
  have HB1 := Lib.hid hb1
  clear hg hb1 HA HF HB HR
  have a0 := block_cell HA1.out 0
  have a1 := block_cell HA1.out 1
  simp at a0 a1
  have l0 := block_loose HA1.out 0
  have l1 := block_loose HA1.out 1
  rcases hres with ⟨e2, r2, hp, rfl, hr⟩ | ⟨c2, hc, hp, rfl⟩
  · have hsm := parts_small hp
    have HRD := Lib.hid hr
    obtain ⟨c0, c1, c2, -⟩ := hr.cells
    clear hr
    cases hri : E.right e2
    · have hev := H.out
      rw [takeEv_form hp hri] at hev
      cases hev
      have HRI := Lib.hid hri
      clear hp H hri
      go_wp2_with fail
      refine (Right_at e2 false w1 (by omega) (by omega) HRI).mono ?_
      rintro x w2 ⟨rfl, hb2⟩
      have HA2 := Lib.hid (block_below HA1.out hb2)
      have HB2 := Lib.hid (HB1.out.trans (hb2.mono HB1.out.size))
      clear a0 a1 l0 l1 c0 c1 c2 hb2
      have a0 := block_cell HA2.out 0
      have a1 := block_cell HA2.out 1
      simp at a0 a1
      have l0 := block_loose HA2.out 0
      have l1 := block_loose HA2.out 1
      go_wp2
      have HK := Lib.hid (set_two (a := .string ⟨#[]⟩) (b := .string ⟨#[]⟩) HA2.out)
      have HB3 := Lib.hid ((HB2.out.setCell (p := ⟨w.heap.size, 0, none⟩) (Nat.le_refl _) (.string ⟨#[]⟩)).setCell (p := ⟨w.heap.size, 1, none⟩) (Nat.le_refl _) (.string ⟨#[]⟩))
      generalize (w2.setCell ⟨w.heap.size, 0, none⟩ (.string ⟨#[]⟩)).setCell ⟨w.heap.size, 1, none⟩ (.string ⟨#[]⟩) = w9 at *
      obtain ⟨k0, k1⟩ := HK.out
      exact bodyPost_ret (v := .tuple #[evV ([], []), .string (B []), .int .i64 2]) (by simp [results, Tryz.results84, go_sem, k0, k1]; rfl) rfl ⟨rfl, HB3.out⟩
    · have hev := H.out
      rw [takeEv_ok hp hri] at hev
      cases hev
      have HRI := Lib.hid hri
      clear hp H hri
      go_wp2_with fail
      refine (Right_at e true w1 (by omega) (by omega) HRI).mono ?_
      rintro x w2 ⟨rfl, hb2⟩
      have HA2 := Lib.hid (block_below HA1.out hb2)
      have HB2 := Lib.hid (HB1.out.trans (hb2.mono HB1.out.size))
      have hr2 := HRD.out.below hb2
      clear a0 a1 l0 l1 c0 c1 c2 hb2
      obtain ⟨c0, c1, c2, -⟩ := hr2.cells
      have a0 := block_cell HA2.out 0
      have a1 := block_cell HA2.out 1
      simp at a0 a1
      have l0 := block_loose HA2.out 0
      have l1 := block_loose HA2.out 1
      clear hr2
      go_wp2
      go_region
      all_goals
        go_wp2
        have HK : Hid (((w2.setCell ⟨w.heap.size, 0, none⟩ (.string (B e.1))).setCell ⟨w.heap.size, 1, none⟩ (.string (B e.2))).drew.cell? ⟨w.heap.size, 0, none⟩ = some (.string (B e.1)) ∧ ((w2.setCell ⟨w.heap.size, 0, none⟩ (.string (B e.1))).setCell ⟨w.heap.size, 1, none⟩ (.string (B e.2))).drew.cell? ⟨w.heap.size, 1, none⟩ = some (.string (B e.2))) := Lib.hid (set_two HA2.out)
        have HB3 := Lib.hid ((HB2.out.setCell (p := ⟨w.heap.size, 0, none⟩) (Nat.le_refl _) (.string (B e.1))).setCell (p := ⟨w.heap.size, 1, none⟩) (Nat.le_refl _) (.string (B e.2))).drew
        generalize ((w2.setCell ⟨w.heap.size, 0, none⟩ (.string (B e.1))).setCell ⟨w.heap.size, 1, none⟩ (.string (B e.2))).drew = w9 at *
        obtain ⟨k0, k1⟩ := HK.out
        exact bodyPost_ret (v := .tuple #[evV e, .string (B r), .int .i64 0]) (by simp [results, Tryz.results84, go_sem, k0, k1]) rfl ⟨rfl, HB3.out⟩
  · have hev := H.out
    rw [takeEv_bad hp] at hev
    cases hev
    have hci : ((c : Int) == 0) = false := beq_eq_false_iff_ne.2 (by omega)
    have hcn : ¬ c = 0 := by omega
    clear hp H
    go_wp2
    have HK := Lib.hid (set_two (a := .string ⟨#[]⟩) (b := .string ⟨#[]⟩) HA1.out)
    have HB3 := Lib.hid ((HB1.out.setCell (p := ⟨w.heap.size, 0, none⟩) (Nat.le_refl _) (.string ⟨#[]⟩)).setCell (p := ⟨w.heap.size, 1, none⟩) (Nat.le_refl _) (.string ⟨#[]⟩))
    generalize (w1.setCell ⟨w.heap.size, 0, none⟩ (.string ⟨#[]⟩)).setCell ⟨w.heap.size, 1, none⟩ (.string ⟨#[]⟩) = w9 at *
    obtain ⟨k0, k1⟩ := HK.out
    exact bodyPost_ret (v := .tuple #[evV ([], []), .string (B []), .int .i64 c]) (by simp [results, Tryz.results84, go_sem, k0, k1]; rfl) rfl ⟨rfl, HB3.out⟩
end Go.Proofs.YtljcgpdjhjkciaaGreat
