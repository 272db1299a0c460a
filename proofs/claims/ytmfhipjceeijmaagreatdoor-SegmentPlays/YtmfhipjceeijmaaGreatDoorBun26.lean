/-
  Own texts, joined: EventReader
-/
import Derived.Test.YtmfhipjceeijmaaGreatDoorBun22
import Derived.Test.YtmfhipjceeijmaaGreatDoorBun9
import Derived.Lib.BufferOwn
import Derived.RangeFuncBox

/-
  The reader of package event: its cells, the methods that take one part each, and inOrder, which calls them as method values.
-/
namespace Go.Proofs.YtmfhipjceeijmaaGreatDoor
open Go.RowKit
attribute [local go_sem] ext_Bd ext_Bl ext_Bt toList_B add_B size_B get_Bt

/-- The reader in block g. -/
def RdAt (w : World) (g : Nat) (left k d st : List UInt8) (ex se sq : Int) (v : Value) : Prop :=
  w.heap[g]? = some (.cells #[.string (B left), .string (B k), .string (B d), .string (B st), .int .i64 ex, .int .i64 se, .int .i64 sq, v] 200 (0, 0))
abbrev rdP (g : Nat) : Value := .pointer (some ⟨g, 0, none⟩)
theorem set_block {w : World} {g : Nat} {cs : Array Value} {t : TypeId} (h : w.heap[g]? = some (.cells cs t (0, 0))) (j : Nat) (u : Value) : (w.setCell ⟨g, j, none⟩ u).heap[g]? = some (.cells (cs.setIfInBounds j u) t (0, 0)) := by
  obtain ⟨hlt, hk⟩ := Array.getElem?_eq_some_iff.1 h
  show (w.heap.modify g _)[g]? = _
  rw [Array.getElem?_eq_getElem (by rw [Array.size_modify]; exact hlt), Array.getElem_modify_self, hk]
  rfl
section
variable {w w' : World} {g : Nat} {left k d st : List UInt8} {ex se sq : Int} {v : Value}
theorem RdAt.cells (h : RdAt w g left k d st ex se sq v) : w.cell? ⟨g, 0, none⟩ = some (.string (B left)) ∧ w.cell? ⟨g, 1, none⟩ = some (.string (B k)) ∧ w.cell? ⟨g, 2, none⟩ = some (.string (B d)) ∧ w.cell? ⟨g, 3, none⟩ = some (.string (B st)) ∧
    w.cell? ⟨g, 4, none⟩ = some (.int .i64 ex) ∧ w.cell? ⟨g, 5, none⟩ = some (.int .i64 se) ∧ w.cell? ⟨g, 6, none⟩ = some (.int .i64 sq) ∧ w.cell? ⟨g, 7, none⟩ = some v := by
  simp [World.cell?, show w.heap[g]? = _ from h]
theorem RdAt.loose (h : RdAt w g left k d st ex se sq v) (j : Nat) : w.frozen? ⟨g, j, none⟩ = false := by simp [World.frozen?, show w.heap[g]? = _ from h]
theorem RdAt.lt (h : RdAt w g left k d st ex se sq v) : g < w.heap.size := (Array.getElem?_eq_some_iff.1 h).1
theorem RdAt.kept (h : RdAt w g left k d st ex se sq v) {row : Option Nat} (hg : w.grownBy w' row) (hne : some g ≠ row) : RdAt w' g left k d st ex se sq v := (hg.block g h.lt hne).trans h
theorem RdAt.below (h : RdAt w g left k d st ex se sq v) (hb : Below w.heap.size w w') : RdAt w' g left k d st ex se sq v := (hb.block g h.lt).trans h
theorem RdAt.quiet (h : RdAt w g left k d st ex se sq v) (hq : sQuiet w w') : RdAt w' g left k d st ex se sq v := by obtain ⟨n, rfl⟩ := hq; exact h
theorem RdAt.set0 (h : RdAt w g left k d st ex se sq v) (x : List UInt8) : RdAt (w.setCell ⟨g, 0, none⟩ (.string (B x))) g x k d st ex se sq v := set_block h 0 _
theorem RdAt.set1 (h : RdAt w g left k d st ex se sq v) (x : List UInt8) : RdAt (w.setCell ⟨g, 1, none⟩ (.string (B x))) g left x d st ex se sq v := set_block h 1 _
theorem RdAt.set2 (h : RdAt w g left k d st ex se sq v) (x : List UInt8) : RdAt (w.setCell ⟨g, 2, none⟩ (.string (B x))) g left k x st ex se sq v := set_block h 2 _
theorem RdAt.set3 (h : RdAt w g left k d st ex se sq v) (x : List UInt8) : RdAt (w.setCell ⟨g, 3, none⟩ (.string (B x))) g left k d x ex se sq v := set_block h 3 _
theorem RdAt.set4 (h : RdAt w g left k d st ex se sq v) (x : Int) : RdAt (w.setCell ⟨g, 4, none⟩ (.int .i64 x)) g left k d st x se sq v := set_block h 4 _
theorem RdAt.set5 (h : RdAt w g left k d st ex se sq v) (x : Int) : RdAt (w.setCell ⟨g, 5, none⟩ (.int .i64 x)) g left k d st ex x sq v := set_block h 5 _
theorem RdAt.set6 (h : RdAt w g left k d st ex se sq v) (x : Int) : RdAt (w.setCell ⟨g, 6, none⟩ (.int .i64 x)) g left k d st ex se x v := set_block h 6 _
theorem RdAt.set7 (h : RdAt w g left k d st ex se sq v) (x : Value) : RdAt (w.setCell ⟨g, 7, none⟩ x) g left k d st ex se sq x := set_block h 7 _
theorem grown_quiet {row : Option Nat} (hq : sQuiet w w') : w.grownBy w' row := by obtain ⟨n, rfl⟩ := hq; exact ⟨rfl, rfl, rfl, Nat.le_refl _, fun _ _ _ => rfl⟩
theorem grown_set (hq : w.grownBy w' (some g)) (j : Nat) (u : Value) : w.grownBy (w'.setCell ⟨g, j, none⟩ u) (some g) := Lib.grownBy_setB hq j u
end

/-- What is behind a part that was taken. -/
theorem takeT_len {l a r : List UInt8} {m : Int} (h : N.takeT l m = Sum.inl (a, r)) : r.length ≤ l.length := by
  rcases N.takeL_cases l with ⟨c, hc⟩ | ⟨n, q, hc⟩
  · rw [N.takeT_bad m hc] at h; cases h
  · have hq : q.length ≤ l.length := by rw [(N.take_inv hc).1, List.length_append]; omega
    by_cases h1 : m < n
    · rw [N.takeT_long hc h1] at h; cases h
    · by_cases h2 : q.length < n
      · rw [N.takeT_short hc h1 h2] at h; cases h
      · rw [N.takeT_ok hc h1 h2] at h
        cases h
        rw [List.length_drop]; omega
theorem takeL_len {l r : List UInt8} {n : Nat} (h : N.takeL l = Sum.inl (n, r)) : r.length ≤ l.length := by rw [(N.take_inv h).1, List.length_append]; omega

/-- What a method that takes a part leaves: the part and what is behind it, or an error. -/
def TextPost (g : Nat) (w : World) (left : List UInt8) (ok : List UInt8 → List UInt8 → World → Prop) (x : Ending) (w' : World) : Prop :=
  w.grownBy w' (some g) ∧ ((∃ a r, N.takeT left 200 = Sum.inl (a, r) ∧ x = .returned (.int .i64 0) ∧ ok a r w') ∨ ∃ c : Nat, N.takeT left 200 = Sum.inr c ∧ x = .returned (.int .i64 c))
def NumPost (g : Nat) (w : World) (left : List UInt8) (ok : Nat → List UInt8 → World → Prop) (x : Ending) (w' : World) : Prop :=
  w.grownBy w' (some g) ∧ ((∃ a r, N.takeL left = Sum.inl (a, r) ∧ x = .returned (.int .i64 0) ∧ ok a r w') ∨ ∃ c : Nat, N.takeL left = Sum.inr c ∧ x = .returned (.int .i64 c))


set_option maxHeartbeats 1000000 in
set_option maxRecDepth 100000 in
theorem rd_kind {w : World} {g : Nat} {left k d st : List UInt8} {ex se sq : Int} {v : Value} (h : RdAt w g left k d st ex se sq v) (hl : left.length ≤ 1000000) :
    Calls Tryz.prog 196 #[rdP g] w (TextPost g w left fun a r w' => RdAt w' g r a d st ex se sq v) := by
  obtain ⟨c0, c1, c2, c3, c4, c5, c6, c7⟩ := h.cells
  have HC := Lib.hid h
  clear h
  go_enter Tryz.func196, Tryz.ntmps196
  go_wp2_with fail
  refine (TakeText_l left 200 w (by omega)).mono ?_
  rintro x w1 ⟨rfl, hq⟩
  have h1 := HC.out.quiet hq
  have HG := Lib.hid (grown_quiet (row := some g) hq)
  have H1 := Lib.hid h1
  clear hq c0 c1 c2 c3 c4 c5 c6 c7
  obtain ⟨c0, c1, c2, c3, c4, c5, c6, c7⟩ := h1.cells
  have f0 := h1.loose 0
  have f1 := h1.loose 1
  clear h1
  rcases K.cases (N.takeT left 200) with ⟨e, ht⟩ | ⟨a, r, ht⟩
  · have HT := Lib.hid ht
    rw [ht]
    clear ht
    rw [show ttRes (Sum.inr e) = _ from ttRes_bad e]
    go_wp2
    go_ret
    exact ⟨grown_set (grown_set HG.out 1 _) 0 _, .inr ⟨e, HT.out, rfl⟩⟩
  · have HT := Lib.hid ht
    rw [ht]
    clear ht
    rw [show ttRes (Sum.inl (a, r)) = _ from ttRes_ok a r]
    go_wp2
    go_ret
    exact ⟨grown_set (grown_set HG.out 1 _) 0 _, .inl ⟨a, r, HT.out, rfl, (H1.out.set1 a).set0 r⟩⟩

set_option maxHeartbeats 1000000 in
set_option maxRecDepth 100000 in
theorem rd_data {w : World} {g : Nat} {left k d st : List UInt8} {ex se sq : Int} {v : Value} (h : RdAt w g left k d st ex se sq v) (hl : left.length ≤ 1000000) :
    Calls Tryz.prog 197 #[rdP g] w (TextPost g w left fun a r w' => RdAt w' g r k a st ex se sq v) := by
  obtain ⟨c0, c1, c2, c3, c4, c5, c6, c7⟩ := h.cells
  have HC := Lib.hid h
  clear h
  go_enter Tryz.func197, Tryz.ntmps197
  go_wp2_with fail
  refine (TakeText_l left 200 w (by omega)).mono ?_
  rintro x w1 ⟨rfl, hq⟩
  have h1 := HC.out.quiet hq
  have HG := Lib.hid (grown_quiet (row := some g) hq)
  have H1 := Lib.hid h1
  clear hq c0 c1 c2 c3 c4 c5 c6 c7
  obtain ⟨c0, c1, c2, c3, c4, c5, c6, c7⟩ := h1.cells
  have f0 := h1.loose 0
  have f2 := h1.loose 2
  clear h1
  rcases K.cases (N.takeT left 200) with ⟨e, ht⟩ | ⟨a, r, ht⟩
  · have HT := Lib.hid ht
    rw [ht]
    clear ht
    rw [show ttRes (Sum.inr e) = _ from ttRes_bad e]
    go_wp2
    go_ret
    exact ⟨grown_set (grown_set HG.out 2 _) 0 _, .inr ⟨e, HT.out, rfl⟩⟩
  · have HT := Lib.hid ht
    rw [ht]
    clear ht
    rw [show ttRes (Sum.inl (a, r)) = _ from ttRes_ok a r]
    go_wp2
    go_ret
    exact ⟨grown_set (grown_set HG.out 2 _) 0 _, .inl ⟨a, r, HT.out, rfl, (H1.out.set2 a).set0 r⟩⟩

set_option maxHeartbeats 1000000 in
set_option maxRecDepth 100000 in
theorem rd_stream {w : World} {g : Nat} {left k d st : List UInt8} {ex se sq : Int} {v : Value} (h : RdAt w g left k d st ex se sq v) (hl : left.length ≤ 1000000) :
    Calls Tryz.prog 169 #[rdP g] w (TextPost g w left fun a r w' => RdAt w' g r k d a ex se sq v) := by
  obtain ⟨c0, c1, c2, c3, c4, c5, c6, c7⟩ := h.cells
  have HC := Lib.hid h
  clear h
  go_enter Tryz.func169, Tryz.ntmps169
  go_wp2_with fail
  refine (TakeText_l left 200 w (by omega)).mono ?_
  rintro x w1 ⟨rfl, hq⟩
  have h1 := HC.out.quiet hq
  have HG := Lib.hid (grown_quiet (row := some g) hq)
  have H1 := Lib.hid h1
  clear hq c0 c1 c2 c3 c4 c5 c6 c7
  obtain ⟨c0, c1, c2, c3, c4, c5, c6, c7⟩ := h1.cells
  have f0 := h1.loose 0
  have f3 := h1.loose 3
  clear h1
  rcases K.cases (N.takeT left 200) with ⟨e, ht⟩ | ⟨a, r, ht⟩
  · have HT := Lib.hid ht
    rw [ht]
    clear ht
    rw [show ttRes (Sum.inr e) = _ from ttRes_bad e]
    go_wp2
    go_ret
    exact ⟨grown_set (grown_set HG.out 3 _) 0 _, .inr ⟨e, HT.out, rfl⟩⟩
  · have HT := Lib.hid ht
    rw [ht]
    clear ht
    rw [show ttRes (Sum.inl (a, r)) = _ from ttRes_ok a r]
    go_wp2
    go_ret
    exact ⟨grown_set (grown_set HG.out 3 _) 0 _, .inl ⟨a, r, HT.out, rfl, (H1.out.set3 a).set0 r⟩⟩

set_option maxHeartbeats 1000000 in
set_option maxRecDepth 100000 in
theorem rd_expect {w : World} {g : Nat} {left k d st : List UInt8} {ex se sq : Int} {v : Value} (h : RdAt w g left k d st ex se sq v) (hl : left.length ≤ 1000000) :
    Calls Tryz.prog 170 #[rdP g] w (NumPost g w left fun a r w' => RdAt w' g r k d st (N.zag a) se sq v) := by
  obtain ⟨c0, c1, c2, c3, c4, c5, c6, c7⟩ := h.cells
  have HC := Lib.hid h
  clear h
  go_enter Tryz.func170, Tryz.ntmps170
  go_wp2_with fail
  refine (TakeInt_l left w (by omega)).mono ?_
  rintro x w1 ⟨rfl, hq⟩
  have h1 := HC.out.quiet hq
  have HG := Lib.hid (grown_quiet (row := some g) hq)
  have H1 := Lib.hid h1
  clear hq c0 c1 c2 c3 c4 c5 c6 c7
  obtain ⟨c0, c1, c2, c3, c4, c5, c6, c7⟩ := h1.cells
  have f0 := h1.loose 0
  have f4 := h1.loose 4
  clear h1
  rcases K.cases (N.takeL left) with ⟨e, ht⟩ | ⟨a, r, ht⟩
  · have HT := Lib.hid ht
    rw [ht]
    clear ht
    rw [show tiRes (Sum.inr e) = _ from tiRes_bad e]
    go_wp2
    go_ret
    exact ⟨grown_set (grown_set HG.out 4 _) 0 _, .inr ⟨e, HT.out, rfl⟩⟩
  · have HT := Lib.hid ht
    rw [ht]
    clear ht
    rw [show tiRes (Sum.inl (a, r)) = _ from tiRes_ok a r]
    obtain ⟨z, HZ⟩ : ∃ z, Hid (N.zag a = z) := ⟨_, Lib.hid rfl⟩
    rw [HZ.out]
    go_wp2
    go_ret
    exact ⟨grown_set (grown_set HG.out 4 _) 0 _, .inl ⟨a, r, HT.out, rfl, by dsimp only; rw [HZ.out]; exact (H1.out.set4 z).set0 r⟩⟩

set_option maxHeartbeats 1000000 in
set_option maxRecDepth 100000 in
theorem rd_session {w : World} {g : Nat} {left k d st : List UInt8} {ex se sq : Int} {v : Value} (h : RdAt w g left k d st ex se sq v) (hl : left.length ≤ 1000000) :
    Calls Tryz.prog 171 #[rdP g] w (NumPost g w left fun a r w' => RdAt w' g r k d st ex (a : Int) sq v) := by
  obtain ⟨c0, c1, c2, c3, c4, c5, c6, c7⟩ := h.cells
  have HC := Lib.hid h
  clear h
  go_enter Tryz.func171, Tryz.ntmps171
  go_wp2_with fail
  refine (Take_l left w (by omega)).mono ?_
  rintro x w1 ⟨rfl, hq⟩
  have h1 := HC.out.quiet hq
  have HG := Lib.hid (grown_quiet (row := some g) hq)
  have H1 := Lib.hid h1
  clear hq c0 c1 c2 c3 c4 c5 c6 c7
  obtain ⟨c0, c1, c2, c3, c4, c5, c6, c7⟩ := h1.cells
  have f0 := h1.loose 0
  have f5 := h1.loose 5
  clear h1
  rcases K.cases (N.takeL left) with ⟨e, ht⟩ | ⟨a, r, ht⟩
  · have HT := Lib.hid ht
    rw [ht]
    clear ht
    rw [show tkRes (Sum.inr e) = _ from tkRes_bad e]
    go_wp2
    go_ret
    exact ⟨grown_set (grown_set HG.out 5 _) 0 _, .inr ⟨e, HT.out, rfl⟩⟩
  · have HT := Lib.hid ht
    rw [ht]
    clear ht
    rw [show tkRes (Sum.inl (a, r)) = _ from tkRes_ok a r]
    obtain ⟨z, HZ⟩ : ∃ z, Hid ((a : Int) = z) := ⟨_, Lib.hid rfl⟩
    rw [HZ.out]
    go_wp2
    go_ret
    exact ⟨grown_set (grown_set HG.out 5 _) 0 _, .inl ⟨a, r, HT.out, rfl, by dsimp only; rw [HZ.out]; exact (H1.out.set5 z).set0 r⟩⟩

set_option maxHeartbeats 1000000 in
set_option maxRecDepth 100000 in
theorem rd_seq {w : World} {g : Nat} {left k d st : List UInt8} {ex se sq : Int} {v : Value} (h : RdAt w g left k d st ex se sq v) (hl : left.length ≤ 1000000) :
    Calls Tryz.prog 172 #[rdP g] w (NumPost g w left fun a r w' => RdAt w' g r k d st ex se (a : Int) v) := by
  obtain ⟨c0, c1, c2, c3, c4, c5, c6, c7⟩ := h.cells
  have HC := Lib.hid h
  clear h
  go_enter Tryz.func172, Tryz.ntmps172
  go_wp2_with fail
  refine (Take_l left w (by omega)).mono ?_
  rintro x w1 ⟨rfl, hq⟩
  have h1 := HC.out.quiet hq
  have HG := Lib.hid (grown_quiet (row := some g) hq)
  have H1 := Lib.hid h1
  clear hq c0 c1 c2 c3 c4 c5 c6 c7
  obtain ⟨c0, c1, c2, c3, c4, c5, c6, c7⟩ := h1.cells
  have f0 := h1.loose 0
  have f6 := h1.loose 6
  clear h1
  rcases K.cases (N.takeL left) with ⟨e, ht⟩ | ⟨a, r, ht⟩
  · have HT := Lib.hid ht
    rw [ht]
    clear ht
    rw [show tkRes (Sum.inr e) = _ from tkRes_bad e]
    go_wp2
    go_ret
    exact ⟨grown_set (grown_set HG.out 6 _) 0 _, .inr ⟨e, HT.out, rfl⟩⟩
  · have HT := Lib.hid ht
    rw [ht]
    clear ht
    rw [show tkRes (Sum.inl (a, r)) = _ from tkRes_ok a r]
    obtain ⟨z, HZ⟩ : ∃ z, Hid ((a : Int) = z) := ⟨_, Lib.hid rfl⟩
    rw [HZ.out]
    go_wp2
    go_ret
    exact ⟨grown_set (grown_set HG.out 6 _) 0 _, .inl ⟨a, r, HT.out, rfl, by dsimp only; rw [HZ.out]; exact (H1.out.set6 z).set0 r⟩⟩

set_option maxHeartbeats 4000000 in
set_option maxRecDepth 100000 in
theorem inOrder_run (gs n g : Nat) (fs : Nat → Nat) (S Q : Nat → World → Prop) (hn : n ≤ 100)
    (hfs : ∀ k, k < n → fs k = 196 ∨ fs k = 197 ∨ fs k = 169 ∨ fs k = 170 ∨ fs k = 171 ∨ fs k = 172 ∨ fs k = 173)
    (hcell : ∀ k wr, k < n → S k wr → wr.cell? ⟨gs, k, none⟩ = some (.func (.func (fs k)) #[rdP g] #[]))
    (hstep : ∀ k wr, k < n → S k wr → Calls Tryz.prog (fs k) #[rdP g] wr fun x w' => (x = .returned (.int .i64 0) ∧ S (k + 1) w') ∨ ∃ c : Nat, 0 < c ∧ x = .returned (.int .i64 c) ∧ Q c w')
    (w : World) (h0 : S 0 w) :
    Calls Tryz.prog 168 #[.slice (some ⟨gs, 0, none⟩) n n] w fun x w' => (x = .returned (.int .i64 0) ∧ S n w') ∨ ∃ c : Nat, 0 < c ∧ x = .returned (.int .i64 c) ∧ Q c w' := by
  have HF := Lib.hid hfs
  have HC := Lib.hid hcell
  have HS := Lib.hid hstep
  have H0 := Lib.hid h0
  clear hfs hcell hstep h0
  go_enter Tryz.func168, Tryz.ntmps168
  go_wp2
  go_loopw [8] (fun i wr => ∃ k : Nat, i = .int .i64 k ∧ k ≤ n ∧ S k wr) (fun i _ => n - (intOf i).toNat)
  case atStart => exact ⟨0, rfl, Nat.zero_le _, H0.out⟩
  case round =>
    obtain ⟨k, rfl, hk, hs⟩ := hrel
    have HSS := Lib.hid hs
    clear hs
    by_cases hlt : k < n
    · have hc := HC.out k wr hlt HSS.out
      have HST := Lib.hid (HS.out k wr hlt HSS.out)
      have hk1 : (k : Int) < (n : Int) := by omega
      have hf := HF.out k hlt
      generalize fs k = f at *
      rcases hf with rfl | rfl | rfl | rfl | rfl | rfl | rfl
      all_goals
        go_wp2_with fail
        refine HST.out.mono ?_
        rintro x w1 (⟨rfl, h1⟩ | ⟨c, hc0, rfl, h1⟩)
        · have H1 := Lib.hid h1
          clear h1 hc
          go_wp2
          go_roundw
          case rel => exact ⟨k + 1, by go_num, by omega, H1.out⟩
          case measure => simp [intOf]; omega
        · have H1 := Lib.hid h1
          have hci : ((c : Int) == 0) = false := beq_eq_false_iff_ne.2 (by omega)
          have hcn : ¬ c = 0 := by omega
          clear h1 hc
          go_wp2
          go_ret
          exact .inr ⟨c, hc0, rfl, H1.out⟩
    · obtain rfl : k = n := by omega
      go_wp2
      go_ret
      exact .inl ⟨rfl, HSS.out⟩
end Go.Proofs.YtmfhipjceeijmaaGreatDoor
