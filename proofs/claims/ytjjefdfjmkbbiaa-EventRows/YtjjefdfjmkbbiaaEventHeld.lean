/-
  An event and a batch in boxes of the call's own, as calls leave them; calls of package event and of the document's answer on them.
-/
import Derived.Test.YtjjefdfjmkbbiaaEventShown
import Derived.Test.YtjjefdfjmkbbiaaEventSame
namespace Go.Proofs.Ytjjefdfjmkbbiaa
open Go.RowKit

/-- Boxes g (an event) and h (a batch) as they were made, and all that was there ahead. -/
abbrev EB (w0 : World) (g h : Nat) (k d st : List UInt8) (ex se sq : Int) (v : Value) (a : World) : Prop :=
  a.cell? ⟨g, 0, none⟩ = some (.string (B k)) ∧ a.cell? ⟨g, 1, none⟩ = some (.string (B d)) ∧ a.cell? ⟨h, 0, none⟩ = some (.string (B st)) ∧ a.cell? ⟨h, 1, none⟩ = some (.int .i64 ex) ∧ a.cell? ⟨h, 2, none⟩ = some (.int .i64 se) ∧
    a.cell? ⟨h, 3, none⟩ = some (.int .i64 sq) ∧ a.cell? ⟨h, 4, none⟩ = some v ∧ KeptB w0 a
section
variable {w0 : World} {g h : Nat} {k d st : List UInt8} {ex se sq : Int} {v : Value} {a b : World}
theorem EB_drew (hs : EB w0 g h k d st ex se sq v a) : EB w0 g h k d st ex se sq v a.drew := by
  obtain ⟨h0, h1, h2, h3, h4, h5, h6, hk⟩ := hs
  exact ⟨h0, h1, h2, h3, h4, h5, h6, keptB_drew hk⟩
theorem EB_call (hs : EB w0 g h k d st ex se sq v a) (hb : Below a.heap.size a b) : EB w0 g h k d st ex se sq v b := by
  obtain ⟨h0, h1, h2, h3, h4, h5, h6, hk⟩ := hs
  have key : ∀ {p : Addr} {u : Value}, a.cell? p = some u → b.cell? p = some u := fun {p u} hp => by rw [hb.cell (World.block_lt_of_cell? a _ hp)]; exact hp
  exact ⟨key h0, key h1, key h2, key h3, key h4, key h5, key h6, keptB_call hk hb⟩
theorem EB_made (w : World) {w1 : World} (hb : Below ((w.alloc (.cells #[.string (B k), .string (B d)] 23)).alloc (.cells #[.string (B st), .int .i64 ex, .int .i64 se, .int .i64 sq, v] 26)).heap.size
    ((w.alloc (.cells #[.string (B k), .string (B d)] 23)).alloc (.cells #[.string (B st), .int .i64 ex, .int .i64 se, .int .i64 sq, v] 26)) w1) : EB w w.heap.size (w.heap.size + 1) k d st ex se sq v w1 := by
  have e0 : ∀ j, ((w.alloc (.cells #[.string (B k), .string (B d)] 23)).alloc (.cells #[.string (B st), .int .i64 ex, .int .i64 se, .int .i64 sq, v] 26)).cell? ⟨w.heap.size, j, none⟩ = (#[Value.string (B k), .string (B d)] : Array Value)[j]? := fun j => by
    rw [((Below.refl _ _).alloc (Nat.le_refl _) _ : Below (w.alloc (.cells #[.string (B k), .string (B d)] 23)).heap.size _ _).cell (by simp), World.cell?_alloc_new]
  have e1 : ∀ j, ((w.alloc (.cells #[.string (B k), .string (B d)] 23)).alloc (.cells #[.string (B st), .int .i64 ex, .int .i64 se, .int .i64 sq, v] 26)).cell? ⟨w.heap.size + 1, j, none⟩ = (#[Value.string (B st), .int .i64 ex, .int .i64 se, .int .i64 sq, v] : Array Value)[j]? := fun j => by
    have := World.cell?_alloc_new (w.alloc (.cells #[.string (B k), .string (B d)] 23)) #[.string (B st), .int .i64 ex, .int .i64 se, .int .i64 sq, v] 26 j
    rwa [World.size_alloc] at this
  exact EB_call ⟨by rw [e0]; rfl, by rw [e0]; rfl, by rw [e1]; rfl, by rw [e1]; rfl, by rw [e1]; rfl, by rw [e1]; rfl, by rw [e1]; rfl, ((Below.refl _ w).alloc (Nat.le_refl _) _).alloc (by simp) _⟩ hb
theorem EB_below (hs : EB w0 g h k d st ex se sq v a) : Below w0.heap.size w0 a := hs.2.2.2.2.2.2.2
theorem refRight_k (e : E.Ev) (r : Bool) (w : World) (h1 : e.1.length ≤ 1000) (H : Hid (E.right e = r)) :
    Calls Try.prog 12 #[evV e] w fun x w' => x = .returned (.bool r) ∧ Below w.heap.size w w' := refRight_at e r w (by omega) H
theorem refEPut_at (e : E.Ev) (s : List UInt8) (w : World) (h1 : e.1.length ≤ 1000) (h2 : e.2.length ≤ 1000) (H : Hid (E.putEv e = s)) :
    Calls Try.prog 14 #[evV e] w fun x w' => x = .returned (.string (B s)) ∧ Below w.heap.size w w' := by
  rw [← H.out]; exact refEPut_l e w h1 h2
theorem Fits_eb (x : E.Bat) (r : Nat) (hs : EB w0 g h k d st ex se sq v a) (HV : Hid (ReadsE w0 v x.events)) (HL : Hid (E.Small x)) (H : Hid (E.fits x = r)) :
    Calls Try.prog 15 #[batV x v] a fun e w' => e = .returned (.int .i64 r) ∧ Below a.heap.size a w' := Fits_at x v r a (readsE_below HV.out (EB_below hs)) HL.out H
theorem refFits_eb (x : E.Bat) (r : Nat) (hs : EB w0 g h k d st ex se sq v a) (HV : Hid (ReadsE w0 v x.events)) (HL : Hid (E.Small x)) (H : Hid (E.fits x = r)) :
    Calls Try.prog 16 #[batV x v] a fun e w' => e = .returned (.int .i64 r) ∧ Below a.heap.size a w' :=
  refFits_at x v r a (readsE_below HV.out (EB_below hs)) (by have := HL.out.1; omega) HL.out.2.1 (fun e he => by have := HL.out.2.2 e he; omega) H
theorem EPutBat_eb (x : E.Bat) (s : List UInt8) (hs : EB w0 g h k d st ex se sq v a) (HV : Hid (ReadsE w0 v x.events)) (HL : Hid (E.Small x)) (H : Hid (E.putBat x = s)) :
    Calls Try.prog 17 #[batV x v] a fun e w' => e = .returned (.string (B s)) ∧ Below a.heap.size a w' := EPutBat_at x v s a (readsE_below HV.out (EB_below hs)) HL.out H
theorem refPutBat_eb (x : E.Bat) (s : List UInt8) (hs : EB w0 g h k d st ex se sq v a) (HV : Hid (ReadsE w0 v x.events)) (HL : Hid (E.Small x)) (H : Hid (E.putBat x = s)) :
    Calls Try.prog 18 #[batV x v] a fun e w' => e = .returned (.string (B s)) ∧ Below a.heap.size a w' := by
  rw [← H.out]
  exact refPutBat_l x v a (readsE_below HV.out (EB_below hs)) (by have := HL.out.1; omega) HL.out.2.1 (fun e he => by have := HL.out.2.2 e he; omega)
end
end Go.Proofs.Ytjjefdfjmkbbiaa
