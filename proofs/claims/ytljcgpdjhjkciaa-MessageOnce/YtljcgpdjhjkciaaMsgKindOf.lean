/-
  The method Kind of a message, called through the interface.
-/
import Derived.Test.YtljcgpdjhjkciaaMsgShown
namespace Go.Proofs.Ytljcgpdjhjkciaa
open Go.RowKit

theorem part_errs (t : M.Lt) (l : List UInt8) : K.Errs (M.takeP t l) := by
  have hi : ∀ l, K.Errs (M.takeI l) := fun l => K.bind_errs (K.num_errs _) fun _ _ => K.ok_errs _ _
  have hc : ∀ {α : Type} (m : Nat) (take : List UInt8 → K.Rd α), (∀ l, K.Errs (take l)) → ∀ l, K.Errs (M.takeC m take l) := fun m take h l => K.bind_errs (K.num_errs _) fun _ _ => K.if_errs (K.bad_errs (by omega)) (K.takeN_errs h _ _)
  cases t with
  | n => exact K.bind_errs (hi l) fun _ _ => K.ok_errs _ _
  | c => exact K.bind_errs (hc 6 _ hi l) fun _ _ => K.ok_errs _ _
  | m => exact K.bind_errs (hc 30 M.takeMk (fun l => K.bind_errs (hi l) fun _ _ => K.bind_errs (hi _) fun _ _ => K.ok_errs _ _) l) fun _ _ => K.ok_errs _ _
  | e => exact K.bind_errs (hc 8 _ R.en_errs l) fun _ _ => K.ok_errs _ _
  | v => exact K.bind_errs (hc 16 _ E.ev_errs l) fun _ _ => K.ok_errs _ _
  | b => exact K.bind_errs (E.bat_errs l) fun _ _ => K.ok_errs _ _
  | s => exact K.bind_errs (K.txt_errs _ _) fun _ _ => K.ok_errs _ _
theorem parts_errs : ∀ (ts : List M.Lt) (l : List UInt8), K.Errs (M.takeS M.takeP ts l)
  | [], _ => K.ok_errs _ _
  | t :: ts, l => K.bind_errs (part_errs t l) fun _ r => K.bind_errs (parts_errs ts r) fun _ _ => K.ok_errs _ _
theorem take_errs {s : List UInt8} {e : Nat} (h : M.takeMsg s = Sum.inr e) : 0 < e := by
  cases s with
  | nil =>
    have h2 : (Sum.inr 3 : Sum M.Msg Nat) = Sum.inr e := h
    cases h2; omega
  | cons c r =>
    by_cases hs : M.shape c.toNat = []
    · rw [take_none hs] at h; cases h; omega
    · rcases ht : M.takeS M.takeP (M.shape c.toNat) r with ⟨ps, q⟩ | e2
      · rw [take_got hs ht] at h
        by_cases hc : ps.all M.rightP = true ∧ q = []
        · rw [if_pos hc] at h; cases h
        · rw [if_neg hc] at h; cases h; omega
      · rw [take_err hs ht] at h
        cases h
        exact parts_errs _ _ _ ht

/-- The method Kind of a message, called through the interface. -/
theorem kind_of (m : MV) (w0 : World) (hr : m.Reads w0) : ∃ (u : TypeId) (z : Value) (kf : Nat), m.val = .iface u z ∧ (∀ w : World, (method 294 u z "Kind").run Try.prog w = .ok (kf, z) w) ∧ (∀ w : World, (callFunc kf #[z]).run Try.prog w = .ok (.enter kf #[z]) w) ∧ (∀ w : World, Calls Try.prog kf #[z] w fun x w' => x = .returned (.int .i64 (m.kind : Int)) ∧ Below w.heap.size w w') := by
  cases m with
  | beat_ n1 n2 n3 => exact ⟨_, _, 107, rfl, (fun w => by kernel_rfl), (fun w => by kernel_rfl), fun w => kind_beat n1 n2 n3 w⟩
  | join_ n1 n2 => exact ⟨_, _, 108, rfl, (fun w => by kernel_rfl), (fun w => by kernel_rfl), fun w => kind_join n1 n2 w⟩
  | lease_ n1 n2 => exact ⟨_, _, 109, rfl, (fun w => by kernel_rfl), (fun w => by kernel_rfl), fun w => kind_lease n1 n2 w⟩
  | view_ n1 l1 v1 l2 v2 l3 v3 => exact ⟨_, _, 110, rfl, (fun w => by kernel_rfl), (fun w => by kernel_rfl), fun w => kind_view n1 v1 v2 v3 w (formI hr.1) (formI hr.2.1) (formI hr.2.2)⟩
  | where_ n1 => exact ⟨_, _, 111, rfl, (fun w => by kernel_rfl), (fun w => by kernel_rfl), fun w => kind_where n1 w⟩
  | have_ n1 n2 n3 l1 v1 => exact ⟨_, _, 112, rfl, (fun w => by kernel_rfl), (fun w => by kernel_rfl), fun w => kind_have n1 n2 n3 v1 w (formM hr)⟩
  | logs_ n1 n2 n3 n4 n5 n6 l1 v1 => exact ⟨_, _, 113, rfl, (fun w => by kernel_rfl), (fun w => by kernel_rfl), fun w => kind_logs n1 n2 n3 n4 n5 n6 v1 w (formR hr.1)⟩
  | ack_ n1 n2 n3 => exact ⟨_, _, 106, rfl, (fun w => by kernel_rfl), (fun w => by kernel_rfl), fun w => kind_ack n1 n2 n3 w⟩
  | ask_ n1 n2 n3 n4 => exact ⟨_, _, 114, rfl, (fun w => by kernel_rfl), (fun w => by kernel_rfl), fun w => kind_ask n1 n2 n3 n4 w⟩
  | told_ n1 n2 n3 n4 => exact ⟨_, _, 115, rfl, (fun w => by kernel_rfl), (fun w => by kernel_rfl), fun w => kind_told n1 n2 n3 n4 w⟩
  | append_ n1 bt v1 => exact ⟨_, _, 116, rfl, (fun w => by kernel_rfl), (fun w => by kernel_rfl), fun w => kind_append n1 bt v1 w (readsE_form hr.1)⟩
  | read_ n1 n2 s => exact ⟨_, _, 117, rfl, (fun w => by kernel_rfl), (fun w => by kernel_rfl), fun w => kind_read n1 n2 s w⟩
  | reply_ n1 n2 n3 n4 n5 n6 => exact ⟨_, _, 118, rfl, (fun w => by kernel_rfl), (fun w => by kernel_rfl), fun w => kind_reply n1 n2 n3 n4 n5 n6 w⟩
  | result_ n1 n2 n3 l1 v1 => exact ⟨_, _, 119, rfl, (fun w => by kernel_rfl), (fun w => by kernel_rfl), fun w => kind_result n1 n2 n3 v1 w (readsE_form hr.1)⟩
end Go.Proofs.Ytljcgpdjhjkciaa
