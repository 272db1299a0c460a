/-
  Proved: for every batch and every event the law EventFits of package bucketlinelaw5 returns true, and its arguments read as before: a batch that fits does with fewer events, but for none, and with more up to eight; with an event that is not right it does not. No condition.
-/
import Derived.Test.YtjjefdfjmkbbiaaEventHeld
import Derived.Test.YtjjefdfjmkbbiaaEventReader4
import Derived.Deep.AppendLies
import Derived.Deep.RegionHeld3
import Derived.ProofKit
import Derived.OpenShut
import Derived.ShutString
namespace Go.Proofs.Ytjjefdfjmkbbiaa
open Go.ChangeShapes Go.WideShapes Go.ChangeAt Go.RowKit
open Go.ChangeMaps (open_string shut_string)
attribute [local go_sem] ext_Bd ext_Bl ext_Bt toList_B add_B size_B get_Bt

theorem eventFits_own : ownKnob Try.prog.godebug = none := by kernel_rfl
theorem eventFits_laid : laidOutB Try.prog = true := by kernel_rfl


theorem light_small4 {b : E.Bat} (h : E.Light b) : E.Small b := ⟨by have := h.1; omega, by have := h.2.1; omega, fun e he => by have := h.2.2 e he; omega⟩
section
variable {w0 : World} {g h : Nat} {k d st : List UInt8} {ex se sq : Int} {v : Value} {a b : World}
theorem EB_made2 (w : World) {w1 : World} (hb : Below ((w.alloc (.cells #[.string (B st), .int .i64 ex, .int .i64 se, .int .i64 sq, v] 26)).alloc (.cells #[.string (B k), .string (B d)] 23)).heap.size
    ((w.alloc (.cells #[.string (B st), .int .i64 ex, .int .i64 se, .int .i64 sq, v] 26)).alloc (.cells #[.string (B k), .string (B d)] 23)) w1) : EB w (w.heap.size + 1) w.heap.size k d st ex se sq v w1 := by
  have e1 : ∀ j, ((w.alloc (.cells #[.string (B st), .int .i64 ex, .int .i64 se, .int .i64 sq, v] 26)).alloc (.cells #[.string (B k), .string (B d)] 23)).cell? ⟨w.heap.size, j, none⟩ = (#[Value.string (B st), .int .i64 ex, .int .i64 se, .int .i64 sq, v] : Array Value)[j]? := fun j => by
    rw [((Below.refl _ _).alloc (Nat.le_refl _) _ : Below (w.alloc (.cells #[.string (B st), .int .i64 ex, .int .i64 se, .int .i64 sq, v] 26)).heap.size _ _).cell (by simp), World.cell?_alloc_new]
  have e0 : ∀ j, ((w.alloc (.cells #[.string (B st), .int .i64 ex, .int .i64 se, .int .i64 sq, v] 26)).alloc (.cells #[.string (B k), .string (B d)] 23)).cell? ⟨w.heap.size + 1, j, none⟩ = (#[Value.string (B k), .string (B d)] : Array Value)[j]? := fun j => by
    have := World.cell?_alloc_new (w.alloc (.cells #[.string (B st), .int .i64 ex, .int .i64 se, .int .i64 sq, v] 26)) #[.string (B k), .string (B d)] 23 j
    rwa [World.size_alloc] at this
  exact EB_call ⟨by rw [e0]; rfl, by rw [e0]; rfl, by rw [e1]; rfl, by rw [e1]; rfl, by rw [e1]; rfl, by rw [e1]; rfl, by rw [e1]; rfl, ((Below.refl _ w).alloc (Nat.le_refl _) _).alloc (by simp) _⟩ hb
theorem EB_kept (hs : EB w0 g h k d st ex se sq v a) {row : Option Nat} (hg : a.grownBy b row) (hr : ∀ j, row = some j → w0.heap.size ≤ j ∧ g ≠ j ∧ h ≠ j) : EB w0 g h k d st ex se sq v b := by
  obtain ⟨h0, h1, h2, h3, h4, h5, h6, hk⟩ := hs
  have kg : some g ≠ row := fun e => (hr g e.symm).2.1 rfl
  have kh : some h ≠ row := fun e => (hr h e.symm).2.2 rfl
  exact ⟨hg.cell h0 kg, hg.cell h1 kg, hg.cell h2 kh, hg.cell h3 kh, hg.cell h4 kh, hg.cell h5 kh, hg.cell h6 kh, Below.grown hk hg hk.size (fun j e => (hr j e).1)⟩
theorem EB_new2 (hs : EB w0 g h k d st ex se sq v a) (o : Obj) : EB w0 g h k d st ex se sq v (a.alloc o) := EB_call hs ((Below.refl _ a).alloc (Nat.le_refl _) o)
end
theorem cell_new4 {w : World} {p : Addr} {u : Value} (h : w.cell? p = some u) (o : Obj) : (w.alloc o).cell? p = some u := by rw [((Below.refl _ w).alloc (Nat.le_refl _) o).cell (World.block_lt_of_cell? w _ h)]; exact h
theorem heap_old {w : World} {g : Nat} {x : Obj} (h : w.heap[g]? = some x) (o : Obj) : (w.alloc o).heap[g]? = some x := by rw [Below.heap_alloc _ _ _ (Array.getElem?_eq_some_iff.1 h).1]; exact h
theorem block_row {w w' : World} {g : Nat} {o : Obj} {row : Option Nat} (ho : w.heap[g]? = some o) (hg : w.grownBy w' row) (hne : some g ≠ row) : w'.heap[g]? = some o := (hg.block g (Array.getElem?_eq_some_iff.1 ho).1 hne).trans ho
theorem new_second (w : World) (o1 o2 : Obj) : ((w.alloc o1).alloc o2).heap[w.heap.size + 1]? = some o2 := by
  have := World.alloc_heap_new (w.alloc o1) o2
  rwa [World.size_alloc] at this
theorem own_second {base : Nat} {t : TypeId} (w : World) (o : Obj) (h : base ≤ w.heap.size + 1) : ((w.alloc o).alloc (.cells #[] t)).ownsRow base t 2 (.slice (some ⟨w.heap.size + 1, 0, none⟩) 0 0) 0 [] := by
  have := World.ownsRow_lit (base := base) (e := t) (size := 2) (w.alloc o) #[] 0 (by rw [World.size_alloc]; exact h) (by decide) rfl
  rwa [World.size_alloc] at this
theorem readsE_take {w : World} {a : Option Addr} {cap : Nat} {evs : List E.Ev} (h : ReadsE w (.slice a evs.length cap) evs) {j : Nat} (hj : j ≤ evs.length) : ReadsE w (.slice a j cap) (evs.take j) := by
  obtain ⟨a2, c2, e, hc, hn, hx⟩ := h
  cases e
  have hl : (evs.take j).length = j := by rw [List.length_take]; omega
  refine ⟨a, cap, by rw [hl], by omega, hn, fun i hi => ?_⟩
  rw [hl] at hi
  obtain ⟨b, off, ea, c0, c1⟩ := hx i (by omega)
  refine ⟨b, off, ea, ?_, ?_⟩
  · rw [c0]; simp
  · rw [c1]; simp
theorem reads_news {w : World} {b off n cap : Nat} {evs : List E.Ev} (h : ReadsE w (.slice (some ⟨b, off, none⟩) n cap) evs) : ∀ j u, (evCells evs)[j]? = some u → w.cell? ((⟨b, off, none⟩ : Addr).add j) = some u := by
  obtain ⟨a2, c2, e, hc, hn, hx⟩ := h
  cases e
  intro j u hu
  rw [Go.WideShapes.add_plain]
  have hj : j < evs.length * 2 := by
    have := (List.getElem?_eq_some_iff.1 hu).1
    rwa [evCells_len] at this
  obtain ⟨b2, o2, ea, c0, c1⟩ := hx (j / 2) (by omega)
  cases ea
  obtain ⟨g0, g1⟩ := evCells_get evs (j / 2) (by omega)
  rcases Nat.mod_two_eq_zero_or_one j with hm | hm
  · rw [show j / 2 * 2 = j by omega] at g0 c0
    rw [c0, ← hu, g0]
  · rw [show j / 2 * 2 + 1 = j by omega] at g1
    rw [show off + j / 2 * 2 + 1 = off + j by omega] at c1
    rw [c1, ← hu, g1]
theorem ev_ones (evs : List E.Ev) : ∀ u ∈ evCells evs, u.oneCell' = true := by
  intro u hu
  unfold evCells at hu
  rw [List.mem_flatMap] at hu
  obtain ⟨e, _, he⟩ := hu
  simp at he
  rcases he with rfl | rfl <;> rfl
theorem fits_take {st : List UInt8} {ex se sq : Int} {evs : List E.Ev} (h : E.fits ⟨st, ex, se, sq, evs⟩ = 0) {j : Nat} (h0 : 0 < j) (hj : j ≤ evs.length) : E.fits ⟨st, ex, se, sq, evs.take j⟩ = 0 := by
  obtain ⟨⟨h1, h2, h3, h4, h5, h6, h7, h8⟩, h9, h10⟩ := E.fits_inv h
  have hl : (evs.take j).length = j := by rw [List.length_take]; omega
  dsimp only at h9
  refine E.fits_ok ⟨h1, h2, h3, h4, h5, h6, h7, by dsimp only; omega⟩ (by dsimp only; omega) ?_
  exact List.all_eq_true.2 fun x hx => List.all_eq_true.1 h10 x (List.mem_of_mem_take hx)
theorem fits_zero {st : List UInt8} {ex se sq : Int} : E.fits ⟨st, ex, se, sq, []⟩ = 1 := E.fits_head fun h => by have := h.2.2.2.2.2.2.2; simp at this
theorem fits_more {st : List UInt8} {ex se sq : Int} {evs : List E.Ev} (h : E.fits ⟨st, ex, se, sq, evs⟩ = 0) (e : E.Ev) (hl : evs.length < 8) {r : Bool} (hr : E.right e = r) : E.fits ⟨st, ex, se, sq, evs ++ [e]⟩ = if r = true then 0 else 1 := by
  obtain ⟨⟨h1, h2, h3, h4, h5, h6, h7, h8⟩, h9, h10⟩ := E.fits_inv h
  have hh : E.headOk ⟨st, ex, se, sq, evs ++ [e]⟩ := ⟨h1, h2, h3, h4, h5, h6, h7, by simp⟩
  cases r
  · exact E.fits_bad hh (by simp; omega) (by rw [List.all_append]; simp [hr])
  · exact E.fits_ok hh (by simp; omega) (by rw [List.all_append]; simp [hr]; exact fun a b hm => List.all_eq_true.1 h10 (a, b) hm)
theorem fits_over {st : List UInt8} {ex se sq : Int} {evs : List E.Ev} (h : E.fits ⟨st, ex, se, sq, evs⟩ = 0) (e : E.Ev) (hl : ¬ evs.length < 8) : E.fits ⟨st, ex, se, sq, evs ++ [e]⟩ = 4 := by
  obtain ⟨⟨h1, h2, h3, h4, h5, h6, h7, h8⟩, _⟩ := E.fits_inv h
  exact E.fits_long ⟨h1, h2, h3, h4, h5, h6, h7, by simp⟩ (by simp; omega)

set_option maxHeartbeats 8000000 in
set_option maxRecDepth 100000 in
theorem eventFits_walk (b : E.Bat) (v : Value) (e : E.Ev) (w : World) (hv : ReadsE w v b.events) :
    Calls Try.prog 7 #[batV b v, evV e] w fun r w' => r = .returned (.bool true) ∧ Below w.heap.size w w' := by
  obtain ⟨k, d⟩ := e
  obtain ⟨st, ex, se, sq, evs⟩ := b
  dsimp only at hv
  have HV := Lib.hid hv
  obtain ⟨a, cap, rfl, hcap, _, hx⟩ := hv
  have HX := Lib.hid hx
  clear hx
  obtain ⟨i0, hi, hz0, hz1, hz2⟩ := info_parts Try.infoEv
  go_enter Try.func7, Try.ntmps7
  go_wp2_with fail
  refine (shown5_any _).mono ?_
  rintro x w1 ⟨rfl, hb1⟩
  have hS1 := EB_made2 w hb1
  clear hb1
  go_wp2_with fail
  refine (light_l ⟨st, ex, se, sq, evs⟩ _ w1 (readsE_below HV.out (EB_below hS1))).mono ?_
  rintro x w2 ⟨hres, hb2⟩
  have hS := EB_call hS1 hb2
  clear hS1 hb2
  have hkb : Below w.heap.size w w2 := EB_below hS
  rcases hres with rfl | ⟨rfl, hl⟩
  · go_wp2
    go_ret
    exact ⟨rfl, hkb⟩
  by_cases h1 : 300 < k.length
  · have h1i : (300 : Int) < k.length := by omega
    go_wp2
    go_ret
    exact ⟨rfl, hkb⟩
  have h1i : ¬ (300 : Int) < k.length := by omega
  by_cases h2 : 500 < d.length
  · have h2i : (500 : Int) < d.length := by omega
    go_wp2
    go_ret
    exact ⟨rfl, hkb⟩
  have h2i : ¬ (500 : Int) < d.length := by omega
  clear hkb
  have HL := Lib.hid (light_small4 hl)
  clear hl
  obtain ⟨f, HF⟩ : ∃ f, Hid (E.fits ⟨st, ex, se, sq, evs⟩ = f) := ⟨_, Lib.hid rfl⟩
  have hk3 : k.length ≤ 1000 := by omega
  have hd3 : d.length ≤ 1000 := by omega
  go_wp2_with fail
  refine (Fits_eb ⟨st, ex, se, sq, evs⟩ f hS HV HL HF).mono ?_
  rintro x w3 ⟨rfl, hb3⟩
  have hS3 := EB_call hS hb3
  clear hS hb3
  by_cases hf : f = 0
  · subst hf
    obtain ⟨⟨_, _, _, _, _, _, _, hpos⟩, hl8, _⟩ := E.fits_inv HF.out
    dsimp only at hpos hl8
    obtain ⟨bb, off, rfl, _, _⟩ := HX.out 0 hpos
    clear HX
    have HS3 := Lib.hid hS3
    clear hS3
    go_wp2
    go_loopw [7] (fun i wr => ∃ j : Nat, i = .int .i64 j ∧ j ≤ evs.length + 1 ∧ EB w (w.heap.size + 1) w.heap.size k d st ex se sq (.slice (some ⟨bb, off, none⟩) evs.length cap) wr) (fun i _ => evs.length + 1 - (intOf i).toNat)
    case atStart => exact ⟨0, rfl, Nat.zero_le _, HS3.out⟩
    case round =>
      obtain ⟨j, rfl, hj, hS4⟩ := hrel
      have HS4 := Lib.hid hS4
      clear HS3
      obtain ⟨p0, p1, q0, q1, q2, q3, q4, -⟩ := hS4
      by_cases hlt : j ≤ evs.length
      · have hji : (j : Int) ≤ (evs.length : Int) := by omega
        have hjc : (j : Int) ≤ (cap : Int) := by omega
        have q4a := cell_new4 q4 (.cells #[.string (B st), .int .i64 ex, .int .i64 se, .int .i64 sq, .slice (some ⟨bb, off, none⟩) evs.length cap] 26)
        have HRT := Lib.hid (readsE_below (readsE_take HV.out hlt) ((EB_below HS4.out).alloc (EB_below HS4.out).size (.cells #[.string (B st), .int .i64 ex, .int .i64 se, .int .i64 sq, .slice (some ⟨bb, off, none⟩) j cap] 26)))
        have HST : Hid (E.Small ⟨st, ex, se, sq, evs.take j⟩) := Lib.hid ⟨HL.out.1, by have := HL.out.2.1; dsimp only at this ⊢; rw [List.length_take]; omega, fun x hx => HL.out.2.2 x (List.mem_of_mem_take hx)⟩
        obtain ⟨f2, HF2⟩ : ∃ f2, Hid (E.fits ⟨st, ex, se, sq, evs.take j⟩ = f2) := ⟨_, Lib.hid rfl⟩
        go_wp2_with fail
        refine (Fits_at ⟨st, ex, se, sq, evs.take j⟩ (.slice (some ⟨bb, off, none⟩) j cap) f2 _ HRT.out HST.out HF2).mono ?_
        rintro x w5 ⟨rfl, hb5⟩
        have hS5 := EB_call HS4.out (below_box hb5)
        have HS5 := Lib.hid hS5
        clear hS5 hb5 q4a
        by_cases hj0 : j = 0
        · have hf2 : f2 = 1 := by rw [← HF2.out, hj0, List.take_zero]; exact fits_zero
          subst hf2 hj0
          go_wp2
          go_roundw
          case rel => exact ⟨1, by go_num, by omega, HS5.out⟩
          case measure => simp [intOf]
        · have hf2 : f2 = 0 := by rw [← HF2.out]; exact fits_take HF.out (by omega) hlt
          subst hf2
          have hj0i : (0 : Int) < (j : Int) := by omega
          have hj0n : 0 < j := by omega
          go_wp2
          go_roundw
          case rel => exact ⟨j + 1, by go_num, by omega, HS5.out⟩
          case measure => simp [intOf]; omega
      · have hji : ¬ (j : Int) ≤ (evs.length : Int) := by omega
        have hbx : w.heap.size + 1 < wr.heap.size := World.block_lt_of_cell? wr _ p0
        have HC5 := Lib.hid (World.alloc_heap_new wr (.cells #[.string (B st), .int .i64 ex, .int .i64 se, .int .i64 sq, .slice (some ⟨bb, off, none⟩) evs.length cap] 26))
        have hS5 := EB_new2 HS4.out (.cells #[.string (B st), .int .i64 ex, .int .i64 se, .int .i64 sq, .slice (some ⟨bb, off, none⟩) evs.length cap] 26)
        have hsz5 : (wr.alloc (.cells #[.string (B st), .int .i64 ex, .int .i64 se, .int .i64 sq, .slice (some ⟨bb, off, none⟩) evs.length cap] 26)).heap.size = wr.heap.size + 1 := by simp
        go_wp2
        clear p0 p1 q0 q1 q2 q3 q4 HS4
        generalize wr.alloc (.cells #[.string (B st), .int .i64 ex, .int .i64 se, .int .i64 sq, .slice (some ⟨bb, off, none⟩) evs.length cap] 26) = w5 at *
        generalize wr.heap.size = gc at *
        have HSZ := Lib.hid hsz5
        clear hsz5
        go_region_held3 (fun w' => EB w (w.heap.size + 1) w.heap.size k d st ex se sq (.slice (some ⟨bb, off, none⟩) evs.length cap) w')
          (first | assumption | exact EB_drew (by assumption) | exact EB_new2 (by assumption) _ | exact EB_kept (by assumption) (Lib.grownBy_setCell _ _ _ _) (fun j e => by cases e; have h5 := HSZ.out; (try dsimp only); omega))
          (first
            | ((refine step_append_lies _ (by rfl) _ _ _ (by rfl) (gc + 1) 23 i0 _ 2 32 Try.underlying24 hi hz0 hz1 hz2 rfl (by omega) (.slice (some ⟨w5.heap.size, 0, none⟩) 0 0) 0 [] (by rfl) (World.ownsRow_lit (base := gc + 1) (e := 23) (size := 2) w5 #[] 0 (by have h5 := HSZ.out; omega) (by decide) rfl).drew
                    ⟨bb, off, none⟩ evs.length cap (evCells evs) (by rfl) (evCells_len evs) (reads_news (readsE_below HV.out (EB_below (by assumption)))) (ev_ones evs) hpos (by unfold maxLen; omega) (by omega) (by have h5 := HSZ.out; simp; omega) (w5.heap.size + 1) (by simp) ?_; intro g1 cap1 w6 hown6 hgrow6 hat6 hlt6; rw [Nat.zero_add, List.nil_append] at hown6; have hE6 := EB_kept (by assumption) hgrow6 (fun j e => by cases e; have h5 := HSZ.out; (try dsimp only); omega); have hC6 := block_row (w := (w5.alloc (.cells #[] 23)).drew) (heap_old HC5.out _) hgrow6 (by have h5 := HSZ.out; simp [Value.ownBlock]; omega)))
            | ((refine step_append_lies _ (by rfl) _ _ _ (by rfl) (gc + 1) 23 i0 _ 2 32 Try.underlying24 hi hz0 hz1 hz2 rfl (by omega) (.slice (some ⟨w5.heap.size, 0, none⟩) 0 0) 0 [] (by rfl) ((World.ownsRow_lit (base := gc + 1) (e := 23) (size := 2) w5 #[] 0 (by have h5 := HSZ.out; omega) (by decide) rfl).alloc (.cells #[.string (B k), .string (B d)] 23)).drew
                    ⟨bb, off, none⟩ evs.length cap (evCells evs) (by rfl) (evCells_len evs) (reads_news (readsE_below HV.out (EB_below (by assumption)))) (ev_ones evs) hpos (by unfold maxLen; omega) (by omega) (by have h5 := HSZ.out; simp; omega) (w5.heap.size + 1 + 1) (by simp) ?_; intro g1 cap1 w6 hown6 hgrow6 hat6 hlt6; rw [Nat.zero_add, List.nil_append] at hown6; have hE6 := EB_kept (by assumption) hgrow6 (fun j e => by cases e; have h5 := HSZ.out; (try dsimp only); omega); have hC6 := block_row (w := ((w5.alloc (.cells #[] 23)).alloc (.cells #[.string (B k), .string (B d)] 23)).drew) (heap_old (heap_old HC5.out _) _) hgrow6 (by have h5 := HSZ.out; simp [Value.ownBlock]; omega); have hEB := block_row (w := ((w5.alloc (.cells #[] 23)).alloc (.cells #[.string (B k), .string (B d)] 23)).drew) (new_second w5 _ _) hgrow6 (by simp [Value.ownBlock])))
            | ((refine step_append_lies _ (by rfl) _ _ _ (by rfl) (gc + 1) 23 i0 _ 2 32 Try.underlying24 hi hz0 hz1 hz2 rfl (by omega) (.slice (some ⟨w5.heap.size + 1, 0, none⟩) 0 0) 0 [] (by rfl) (own_second w5 (.cells #[.string (B k), .string (B d)] 23) (by have h5 := HSZ.out; omega)).drew
                    ⟨bb, off, none⟩ evs.length cap (evCells evs) (by rfl) (evCells_len evs) (reads_news (readsE_below HV.out (EB_below (by assumption)))) (ev_ones evs) hpos (by unfold maxLen; omega) (by omega) (by have h5 := HSZ.out; simp; omega) (w5.heap.size + 1 + 1) (by simp) ?_; intro g1 cap1 w6 hown6 hgrow6 hat6 hlt6; rw [Nat.zero_add, List.nil_append] at hown6; have hE6 := EB_kept (by assumption) hgrow6 (fun j e => by cases e; have h5 := HSZ.out; (try dsimp only); omega); have hC6 := block_row (w := ((w5.alloc (.cells #[.string (B k), .string (B d)] 23)).alloc (.cells #[] 23)).drew) (heap_old (heap_old HC5.out _) _) hgrow6 (by have h5 := HSZ.out; simp [Value.ownBlock]; omega); have hEC := block_row (w := ((w5.alloc (.cells #[.string (B k), .string (B d)] 23)).alloc (.cells #[] 23)).drew) (heap_old (World.alloc_heap_new w5 _) _) hgrow6 (by simp [Value.ownBlock])))
            | ((refine step_append_lies _ (by rfl) _ _ _ (by rfl) (gc + 1) 23 i0 _ 2 32 Try.underlying24 hi hz0 hz1 hz2 rfl (by omega) (.slice (some ⟨g1, 0, none⟩) evs.length cap1) evs.length (evCells evs) (by first | rfl | (simp only [Nat.zero_add]; rfl)) (hown6.alloc _)
                    ⟨w6.heap.size, 0, none⟩ 1 1 [.string (B k), .string (B d)] (by rfl) (by rfl) (World.news_of_block (cs := #[.string (B k), .string (B d)]) (t := 23) (fr := (0, 0)) (heap_alloc_new w6 _)) (by simp [Value.oneCell']) (by omega) (by unfold maxLen; omega) (by omega) (by have h1 := (hown6.lt g1 rfl).1; first | (simp; omega) | omega) (w6.heap.size + 1) (by simp) ?_; intro g2 cap2 w7 hown7 hgrow7 hat7 hlt7; have hE7 := EB_kept (by assumption) hgrow7 (fun j e => by cases e; have h1 := (hown6.lt g1 rfl).1; have h5 := HSZ.out; (try dsimp only); omega); have hC7 := block_row (heap_old hC6 _) hgrow7 (by have h1 := (hown6.lt g1 rfl).1; simp [Value.ownBlock]; omega); have c4w := block_cell hC7 4; have f4w := block_loose hC7 4; simp at c4w))
            | ((refine step_append_lies _ (by rfl) _ _ _ (by rfl) (gc + 1) 23 i0 _ 2 32 Try.underlying24 hi hz0 hz1 hz2 rfl (by omega) (.slice (some ⟨g1, 0, none⟩) evs.length cap1) evs.length (evCells evs) (by first | rfl | (simp only [Nat.zero_add]; rfl)) hown6
                    ⟨w5.heap.size + 1, 0, none⟩ 1 1 [.string (B k), .string (B d)] (by rfl) (by rfl) (World.news_of_block (cs := #[.string (B k), .string (B d)]) (t := 23) (fr := (0, 0)) hEB) (by simp [Value.oneCell']) (by omega) (by unfold maxLen; omega) (by omega) (by have h1 := (hown6.lt g1 rfl).1; first | (simp; omega) | omega) (w6.heap.size) (by simp) ?_; intro g2 cap2 w7 hown7 hgrow7 hat7 hlt7; have hE7 := EB_kept (by assumption) hgrow7 (fun j e => by cases e; have h1 := (hown6.lt g1 rfl).1; have h5 := HSZ.out; (try dsimp only); omega); have hC7 := block_row hC6 hgrow7 (by have h1 := (hown6.lt g1 rfl).1; simp [Value.ownBlock]; omega); have c4w := block_cell hC7 4; have f4w := block_loose hC7 4; simp at c4w))
            | ((refine step_append_lies _ (by rfl) _ _ _ (by rfl) (gc + 1) 23 i0 _ 2 32 Try.underlying24 hi hz0 hz1 hz2 rfl (by omega) (.slice (some ⟨g1, 0, none⟩) evs.length cap1) evs.length (evCells evs) (by first | rfl | (simp only [Nat.zero_add]; rfl)) hown6
                    ⟨w5.heap.size, 0, none⟩ 1 1 [.string (B k), .string (B d)] (by rfl) (by rfl) (World.news_of_block (cs := #[.string (B k), .string (B d)]) (t := 23) (fr := (0, 0)) hEC) (by simp [Value.oneCell']) (by omega) (by unfold maxLen; omega) (by omega) (by have h1 := (hown6.lt g1 rfl).1; first | (simp; omega) | omega) (w6.heap.size) (by simp) ?_; intro g2 cap2 w7 hown7 hgrow7 hat7 hlt7; have hE7 := EB_kept (by assumption) hgrow7 (fun j e => by cases e; have h1 := (hown6.lt g1 rfl).1; have h5 := HSZ.out; (try dsimp only); omega); have hC7 := block_row hC6 hgrow7 (by have h1 := (hown6.lt g1 rfl).1; simp [Value.ownBlock]; omega); have c4w := block_cell hC7 4; have f4w := block_loose hC7 4; simp at c4w))
            | fail)
        all_goals
          have HO9 : Hid (ReadsE (w7.setCell ⟨gc, 4, none⟩ (.slice (some ⟨g2, 0, none⟩) (evs.length + 1) cap2)) (.slice (some ⟨g2, 0, none⟩) (evs.length + 1) cap2) (evs ++ [(k, d)])) := Lib.hid (by
            have h1 := hown7.kept (Lib.grownBy_setCell w7 gc 4 (.slice (some ⟨g2, 0, none⟩) (evs.length + 1) cap2)) (.inr (own_ne hown7 (Nat.lt_succ_self gc)).symm)
            have h2 : evCells (evs ++ [(k, d)]) = evCells evs ++ [.string (B k), .string (B d)] := evCells_snoc evs (k, d)
            have h3 : (evs ++ [(k, d)]).length = evs.length + 1 := by simp
            refine readsE_own (base := gc + 1) (t := 23) ?_
            rw [h2, h3]
            exact h1)
          have HC9 : Hid ((w7.setCell ⟨gc, 4, none⟩ (.slice (some ⟨g2, 0, none⟩) (evs.length + 1) cap2)).heap[gc]? = some (.cells #[.string (B st), .int .i64 ex, .int .i64 se, .int .i64 sq, .slice (some ⟨g2, 0, none⟩) (evs.length + 1) cap2] 26 (0, 0))) := Lib.hid (set_block hC7 4 _)
          have HS9 : Hid (EB w (w.heap.size + 1) w.heap.size k d st ex se sq (.slice (some ⟨bb, off, none⟩) evs.length cap) (w7.setCell ⟨gc, 4, none⟩ (.slice (some ⟨g2, 0, none⟩) (evs.length + 1) cap2))) := Lib.hid (EB_kept hE7 (Lib.grownBy_setCell _ _ _ _) (fun j e => by cases e; have h5 := HSZ.out; (try dsimp only); omega))
          clear hown7 hC7 hE7 c4w f4w hgrow7 hat7 hlt7 hown6 hgrow6 hat6 hlt6 hE6 hC6
          generalize (w7.setCell ⟨gc, 4, none⟩ (.slice (some ⟨g2, 0, none⟩) (evs.length + 1) cap2)) = w9 at *
          obtain ⟨p0, p1, -⟩ := id HS9.out
          have r0 := block_cell HC9.out 0
          have r1 := block_cell HC9.out 1
          have r2 := block_cell HC9.out 2
          have r3 := block_cell HC9.out 3
          have r4 := block_cell HC9.out 4
          simp at r0 r1 r2 r3 r4
          obtain ⟨rt, HRT⟩ : ∃ rt, Hid (E.right (k, d) = rt) := ⟨_, Lib.hid rfl⟩
          go_wp2_with fail
          refine (Right_at (k, d) rt w9 hk3 hd3 HRT).mono ?_
          rintro x w10 ⟨rfl, hb10⟩
          have HC10 := Lib.hid (block_below HC9.out hb10)
          have HO10 := Lib.hid (readsE_below HO9.out hb10)
          have HK10 := Lib.hid ((EB_below HS9.out).trans (hb10.mono (EB_below HS9.out).size))
          clear r0 r1 r2 r3 r4 p0 p1 hb10 HO9 HC9 HS9
          have r0 := block_cell HC10.out 0
          have r1 := block_cell HC10.out 1
          have r2 := block_cell HC10.out 2
          have r3 := block_cell HC10.out 3
          have r4 := block_cell HC10.out 4
          simp at r0 r1 r2 r3 r4
          have HSM : Hid (E.Small ⟨st, ex, se, sq, evs ++ [(k, d)]⟩) := Lib.hid ⟨HL.out.1, by simp; omega, fun x hx => by
            rcases List.mem_append.1 hx with h | h
            · exact HL.out.2.2 x h
            · simp at h; subst h; exact ⟨hk3, hd3⟩⟩
          by_cases hle : evs.length < 8
          · have h8i : ¬ (8 : Int) < (evs.length : Int) + 1 := by omega
            cases rt
            · have HFV := Lib.hid (show E.fits ⟨st, ex, se, sq, evs ++ [(k, d)]⟩ = 1 from fits_more HF.out (k, d) hle HRT.out)
              go_wp2_with fail
              refine (chain (Fits_at ⟨st, ex, se, sq, evs ++ [(k, d)]⟩ (.slice (some ⟨g2, 0, none⟩) (evs.length + 1) cap2) 1 w10 HO10.out HSM.out HFV) HK10.out).mono ?_
              rintro x w11 ⟨rfl, hb11⟩
              go_wp2
              go_ret
              exact ⟨rfl, hb11⟩
            · have HFV := Lib.hid (show E.fits ⟨st, ex, se, sq, evs ++ [(k, d)]⟩ = 0 from fits_more HF.out (k, d) hle HRT.out)
              go_wp2_with fail
              refine (chain (Fits_at ⟨st, ex, se, sq, evs ++ [(k, d)]⟩ (.slice (some ⟨g2, 0, none⟩) (evs.length + 1) cap2) 0 w10 HO10.out HSM.out HFV) HK10.out).mono ?_
              rintro x w11 ⟨rfl, hb11⟩
              go_wp2
              go_ret
              exact ⟨rfl, hb11⟩
          · have h8i : (8 : Int) < (evs.length : Int) + 1 := by omega
            have HFV := Lib.hid (show E.fits ⟨st, ex, se, sq, evs ++ [(k, d)]⟩ = 4 from fits_over HF.out (k, d) hle)
            cases rt
            · skip
              go_wp2_with fail
              refine (chain (Fits_at ⟨st, ex, se, sq, evs ++ [(k, d)]⟩ (.slice (some ⟨g2, 0, none⟩) (evs.length + 1) cap2) 4 w10 HO10.out HSM.out HFV) HK10.out).mono ?_
              rintro x w11 ⟨rfl, hb11⟩
              go_wp2
              go_ret
              exact ⟨rfl, hb11⟩
            · skip
              go_wp2_with fail
              refine (chain (Fits_at ⟨st, ex, se, sq, evs ++ [(k, d)]⟩ (.slice (some ⟨g2, 0, none⟩) (evs.length + 1) cap2) 4 w10 HO10.out HSM.out HFV) HK10.out).mono ?_
              rintro x w11 ⟨rfl, hb11⟩
              go_wp2
              go_ret
              exact ⟨rfl, hb11⟩
  · have hfi : ((f : Int) == 0) = false := beq_eq_false_iff_ne.2 (by omega)
    have hfj : ((f : Int) != 0) = true := bne_iff_ne.2 (by omega)
    have hkb := EB_below hS3
    go_wp2
    go_ret
    exact ⟨rfl, hkb⟩

set_option maxRecDepth 100000 in
theorem eventFits_lifted (os : Os) (started : os.Started) (H : Type) (enc : TypeId × Value → H) :
    ReturnsInHanded {} Try.checked os 7 .any (Rows.eventFitsSpec.pre6 enc Try.prog Try.f7 Rows.eventFitsRow.domain false) (Rows.eventFitsSpec.post enc Try.prog Try.f7 false true false false) := by
  refine returnsInHanded_of_change (C := Try.checked) eventFits_own started (by kernel_rfl) Try.func7
    (ChangeSpec.witness6 (enc := enc) (C := Try.checked) false ⟨#[], #[.agg #[.string ByteArray.empty, .int .i64 0, .int .i64 0, .int .i64 0, .slice none 0 0], .agg #[.string ByteArray.empty, .string ByteArray.empty]], []⟩ 8 (by kernel_rfl) (by kernel_rfl) (by kernel_rfl) (by kernel_rfl)) ?_
  intro W base args ds gs before hval0 hW _ _
  have hval : ∀ (j : Nat) t v, Try.f7.params[j]? = some t → args[j]? = some v → Value.okWide Try.prog W .any base t v := hval0
  have hW' := hW
  obtain ⟨p, q, hA0, hV, rfl, hfz, hnd⟩ := hW
  have hA : DataW.TrodAll enc Try.prog W 0 (fun _ => true) true Try.f7.params.toList args.toList ds p := hA0
  rw [Try.params7] at hA hval
  obtain ⟨v0, vs0, d0, ds0, p0, q0, hargs, rfl, rfl, h0, r0⟩ := trodAll_cons hA
  obtain ⟨v1, vs1, d1, ds1, p1, q1, rfl, rfl, rfl, h1, r1⟩ := trodAll_cons r0
  obtain ⟨rfl, rfl, rfl⟩ := trodAll_nil r1
  obtain rfl : args = #[v0, v1] := by cases args; simp_all
  obtain ⟨rfl, rfl⟩ := trodVars_none hV
  have k0 := h0
  have lt0 : ∀ x ∈ p0, x.block < W.heap.size := by obtain ⟨m, hm⟩ := k0; exact DataW.trod_lt m _ _ _ hm
  obtain ⟨b0, u0, rfl, w0, _⟩ := arg_batch Try.underlying26 (by kernel_rfl) (by kernel_rfl) Try.underlying9 Try.underlying3 Try.underlying3 Try.underlying3 rfl Try.underlying24 Try.underlying23 (by kernel_rfl) (by kernel_rfl) Try.underlying9 Try.underlying9 (hval 0 26 v0 rfl rfl) h0
  have k1 := h1
  have lt1 : ∀ x ∈ p1, x.block < W.heap.size := by obtain ⟨m, hm⟩ := k1; exact DataW.trod_lt m _ _ _ hm
  obtain ⟨e1, rfl⟩ := arg_event Try.underlying23 (by kernel_rfl) (by kernel_rfl) Try.underlying9 Try.underlying9 (hval 1 23 v1 rfl rfl) h1
  clear hA0 hval0
  refine (eventFits_walk b0 u0 e1 W w0).mono fun e W' ⟨he, bel⟩ => ?_
  subst he
  exact ⟨_, rfl, _, _, _, [], _, [], hW', trodAll_mk1 (shut_bool Try.underlying4 _), (trodAll_cons_mk (Below.trod eventFits_laid (by kernel_rfl) (of_decide_eq_true (by kernel_rfl)) k0 bel lt0) (trodAll_cons_mk (Below.trod eventFits_laid (by kernel_rfl) (of_decide_eq_true (by kernel_rfl)) k1 bel lt1) trodAll_mk0)), rfl, bel.frame _, fun h => by cases h⟩

theorem eventFits_holds : Rows.EventFitsSaid :=
  OpenClaim.holds_of_wide 7 Try.f7 rfl rfl rfl rfl rfl rfl rfl ⟨rfl, rfl, rfl, rfl, rfl⟩ rfl rfl rfl rfl rfl (by kernel_rfl) Try.func7 (by kernel_rfl)
    (of_decide_eq_true (by kernel_rfl)) (by unfold Func.isWrapper; first | (rw [if_pos (by decide +kernel)]; kernel_rfl) | (rw [if_neg (by decide +kernel)]; exact ⟨rfl, rfl⟩))
    (fun os started H enc _ => eventFits_lifted os started H enc)
#print axioms eventFits_holds

end Go.Proofs.Ytjjefdfjmkbbiaa
