/-
  Two batches in boxes of the call's own, as calls leave them.
-/
import Derived.Test.YtjjefdfjmkbbiaaEventHeld
namespace Go.Proofs.Ytjjefdfjmkbbiaa
open Go.RowKit

abbrev BB (w0 : World) (g h : Nat) (s1 : List UInt8) (x1 y1 z1 : Int) (v1 : Value) (s2 : List UInt8) (x2 y2 z2 : Int) (v2 : Value) (a : World) : Prop :=
  a.cell? ⟨g, 0, none⟩ = some (.string (B s1)) ∧ a.cell? ⟨g, 1, none⟩ = some (.int .i64 x1) ∧ a.cell? ⟨g, 2, none⟩ = some (.int .i64 y1) ∧ a.cell? ⟨g, 3, none⟩ = some (.int .i64 z1) ∧ a.cell? ⟨g, 4, none⟩ = some v1 ∧
    a.cell? ⟨h, 0, none⟩ = some (.string (B s2)) ∧ a.cell? ⟨h, 1, none⟩ = some (.int .i64 x2) ∧ a.cell? ⟨h, 2, none⟩ = some (.int .i64 y2) ∧ a.cell? ⟨h, 3, none⟩ = some (.int .i64 z2) ∧ a.cell? ⟨h, 4, none⟩ = some v2 ∧ KeptB w0 a
section
variable {w0 : World} {g h : Nat} {s1 s2 : List UInt8} {x1 y1 z1 x2 y2 z2 : Int} {v1 v2 : Value} {a b : World}
theorem BB_drew (hs : BB w0 g h s1 x1 y1 z1 v1 s2 x2 y2 z2 v2 a) : BB w0 g h s1 x1 y1 z1 v1 s2 x2 y2 z2 v2 a.drew := by
  obtain ⟨h0, h1, h2, h3, h4, h5, h6, h7, h8, h9, hk⟩ := hs
  exact ⟨h0, h1, h2, h3, h4, h5, h6, h7, h8, h9, keptB_drew hk⟩
theorem BB_call (hs : BB w0 g h s1 x1 y1 z1 v1 s2 x2 y2 z2 v2 a) (hb : Below a.heap.size a b) : BB w0 g h s1 x1 y1 z1 v1 s2 x2 y2 z2 v2 b := by
  obtain ⟨h0, h1, h2, h3, h4, h5, h6, h7, h8, h9, hk⟩ := hs
  have key : ∀ {p : Addr} {u : Value}, a.cell? p = some u → b.cell? p = some u := fun {p u} hp => by rw [hb.cell (World.block_lt_of_cell? a _ hp)]; exact hp
  exact ⟨key h0, key h1, key h2, key h3, key h4, key h5, key h6, key h7, key h8, key h9, keptB_call hk hb⟩
theorem BB_below (hs : BB w0 g h s1 x1 y1 z1 v1 s2 x2 y2 z2 v2 a) : Below w0.heap.size w0 a := hs.2.2.2.2.2.2.2.2.2.2
theorem BB_made (w : World) {w1 : World} (hb : Below ((w.alloc (.cells #[.string (B s1), .int .i64 x1, .int .i64 y1, .int .i64 z1, v1] 26)).alloc (.cells #[.string (B s2), .int .i64 x2, .int .i64 y2, .int .i64 z2, v2] 26)).heap.size
    ((w.alloc (.cells #[.string (B s1), .int .i64 x1, .int .i64 y1, .int .i64 z1, v1] 26)).alloc (.cells #[.string (B s2), .int .i64 x2, .int .i64 y2, .int .i64 z2, v2] 26)) w1) : BB w w.heap.size (w.heap.size + 1) s1 x1 y1 z1 v1 s2 x2 y2 z2 v2 w1 := by
  have e0 : ∀ j, ((w.alloc (.cells #[.string (B s1), .int .i64 x1, .int .i64 y1, .int .i64 z1, v1] 26)).alloc (.cells #[.string (B s2), .int .i64 x2, .int .i64 y2, .int .i64 z2, v2] 26)).cell? ⟨w.heap.size, j, none⟩ = (#[Value.string (B s1), .int .i64 x1, .int .i64 y1, .int .i64 z1, v1] : Array Value)[j]? := fun j => by
    rw [((Below.refl _ _).alloc (Nat.le_refl _) _ : Below (w.alloc (.cells #[.string (B s1), .int .i64 x1, .int .i64 y1, .int .i64 z1, v1] 26)).heap.size _ _).cell (by simp), World.cell?_alloc_new]
  have e1 : ∀ j, ((w.alloc (.cells #[.string (B s1), .int .i64 x1, .int .i64 y1, .int .i64 z1, v1] 26)).alloc (.cells #[.string (B s2), .int .i64 x2, .int .i64 y2, .int .i64 z2, v2] 26)).cell? ⟨w.heap.size + 1, j, none⟩ = (#[Value.string (B s2), .int .i64 x2, .int .i64 y2, .int .i64 z2, v2] : Array Value)[j]? := fun j => by
    have := World.cell?_alloc_new (w.alloc (.cells #[.string (B s1), .int .i64 x1, .int .i64 y1, .int .i64 z1, v1] 26)) #[.string (B s2), .int .i64 x2, .int .i64 y2, .int .i64 z2, v2] 26 j
    rwa [World.size_alloc] at this
  exact BB_call ⟨by rw [e0]; rfl, by rw [e0]; rfl, by rw [e0]; rfl, by rw [e0]; rfl, by rw [e0]; rfl, by rw [e1]; rfl, by rw [e1]; rfl, by rw [e1]; rfl, by rw [e1]; rfl, by rw [e1]; rfl, ((Below.refl _ w).alloc (Nat.le_refl _) _).alloc (by simp) _⟩ hb
/-- Calls on what was there ahead, in any world behind. -/
theorem Fits_bk (x : E.Bat) (v : Value) (r : Nat) (hk : Below w0.heap.size w0 a) (HV : Hid (ReadsE w0 v x.events)) (HL : Hid (E.Small x)) (H : Hid (E.fits x = r)) :
    Calls Try.prog 15 #[batV x v] a fun e w' => e = .returned (.int .i64 r) ∧ Below a.heap.size a w' := Fits_at x v r a (readsE_below HV.out hk) HL.out H
theorem EPutBat_bk (x : E.Bat) (v : Value) (s : List UInt8) (hk : Below w0.heap.size w0 a) (HV : Hid (ReadsE w0 v x.events)) (HL : Hid (E.Small x)) (H : Hid (E.putBat x = s)) :
    Calls Try.prog 17 #[batV x v] a fun e w' => e = .returned (.string (B s)) ∧ Below a.heap.size a w' := EPutBat_at x v s a (readsE_below HV.out hk) HL.out H
theorem ESame_bk (x y : E.Bat) (u v : Value) (r : Bool) (hk : Below w0.heap.size w0 a) (HU : Hid (ReadsE w0 u x.events)) (HV : Hid (ReadsE w0 v y.events)) (HX : Hid (E.Small x)) (HY : Hid (E.Small y)) (H : Hid (E.sameB x y = r)) :
    Calls Try.prog 22 #[batV x u, batV y v] a fun e w' => e = .returned (.bool r) ∧ Below a.heap.size a w' := ESame_at x y u v r a (readsE_below HU.out hk) (readsE_below HV.out hk) HX.out HY.out H
theorem sameBatch_bk (x y : E.Bat) (u v : Value) (r : Bool) (hk : Below w0.heap.size w0 a) (HU : Hid (ReadsE w0 u x.events)) (HV : Hid (ReadsE w0 v y.events)) (HX : Hid (E.Small x)) (H : Hid (E.sameB x y = r)) :
    Calls Try.prog 21 #[batV x u, batV y v] a fun e w' => e = .returned (.bool r) ∧ Below a.heap.size a w' := by
  rw [← H.out]; exact sameBatch_l x y u v a (readsE_below HU.out hk) (readsE_below HV.out hk) (by have := HX.out.2.1; omega)
end
end Go.Proofs.Ytjjefdfjmkbbiaa
