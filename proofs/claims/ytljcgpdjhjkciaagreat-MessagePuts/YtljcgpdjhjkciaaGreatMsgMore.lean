/-
  The walk of shown of the statements' package: the chapter's examples. The method Kind of a message, called through the interface. What is right can be taken back: of the bytes of a message, with a byte less, and with a byte more.
-/
import Derived.Test.YtljcgpdjhjkciaaGreatMsgFlat
namespace Go.Proofs.YtljcgpdjhjkciaaGreat
open Go.RowKit
attribute [local go_sem] ext_Bd ext_Bl ext_Bt toList_B add_B size_B get_Bt

theorem ex_fit : M.fits M.okP (M.shape 5) [.n 9] := ⟨⟨9, rfl, by unfold K.intOk; omega⟩, trivial⟩
theorem ex_bytes : ([M.Pt.n 9].flatMap M.putP) = [9] := by decide +kernel
theorem ex_one : M.takeMsg [5, 9] = Sum.inl ⟨5, [.n 9]⟩ := by
  have h := M.take_back (m := ⟨5, [.n 9]⟩) (by decide) (by decide) ex_fit (by decide +kernel)
  have e : M.bytesM ⟨5, [.n 9]⟩ = [5, 9] := by decide +kernel
  rwa [e] at h
theorem ex_two : M.takeMsg [5, 9, 0] = Sum.inr 2 := by
  have h := (M.bodyC 5).back [.n 9] [0] ex_fit
  rw [show ([M.Pt.n 9].flatMap M.putP) ++ [0] = [9, 0] by rw [ex_bytes]; rfl] at h
  rw [take_got (c := 5) (by decide) h, if_neg (by simp)]
theorem ex_three : M.takeMsg [99] = Sum.inr 2 := take_none (c := 99) rfl
theorem ex_ack : (MV.ack_ 1 2 300).out = [8, 1, 2, 172, 2] := by decide +kernel
theorem kind_five {m : MV} (h : m.kind = 5) : ∃ n, m = .where_ n := by
  cases m <;> first | exact ⟨_, rfl⟩ | (simp [MV.kind] at h)

set_option maxHeartbeats 4000000 in
set_option maxRecDepth 100000 in
theorem shown7_l (w : World) : Calls Tryz.prog 4 #[] w fun r w' => r = .returned (.bool true) ∧ Below w.heap.size w w' := by
  have HX1 := Lib.hid ex_one
  have HX2 := Lib.hid ex_two
  have HX3 := Lib.hid ex_three
  have HX4 := Lib.hid ex_ack
  go_enter Tryz.func4, Tryz.ntmps4
  go_wp2_with fail
  refine (MTake_at [5, 9] _ _ (by decide) HX1).mono ?_
  rintro x w1 ⟨hb1, m, rfl, hk, -, hrd⟩
  obtain ⟨n, rfl⟩ := kind_five hk
  clear hk hrd
  dsimp only [MV.val]
  go_wp2_with fail
  refine (MTake_at [5, 9, 0] _ _ (by decide) HX2).mono ?_
  rintro x w2 ⟨hb2, rfl⟩
  have hb12 := hb1.trans (hb2.mono hb1.size)
  clear hb1 hb2
  go_wp2_with fail
  refine (MTake_at [99] _ _ (by decide) HX3).mono ?_
  rintro x w3 ⟨hb3, rfl⟩
  have hb13 := hb12.trans (hb3.mono hb12.size)
  clear hb12 hb3
  go_wp2_with fail
  refine (flat_where n _).mono ?_
  rintro x w4 ⟨q, rfl, -, hb4, -⟩
  have HB := Lib.hid (hb13.trans (hb4.mono hb13.size))
  clear hb13 hb4
  have HPA : Hid (∀ w', Calls Tryz.prog 10 #[.iface 51 (.agg #[.int .i64 1, .int .i64 2, .int .i64 300])] w' fun x w'' => x = .returned (.string (B [8, 1, 2, 172, 2])) ∧ Below w'.heap.size w' w'') := Lib.hid fun w' => MPut_at (.ack_ 1 2 300) _ w' trivial HX4
  go_wp2_with fail
  refine (HPA.out _).mono ?_
  rintro x w5 ⟨rfl, hb5⟩
  have c0 := box_at hb5 0
  simp at c0
  have hb6 := HB.out.trans ((below_box hb5).mono HB.out.size)
  have HB6 := Lib.hid hb6
  clear hb5 hb6
  have hq : B [8, 1, 2, 172, 2] = (⟨#[8, 1, 2, 172, 2]⟩ : ByteArray) := rfl
  go_wp2_with fail
  refine (MRight_nil _).mono ?_
  rintro x w6 ⟨rfl, hb7⟩
  have HB7 := Lib.hid (HB6.out.trans (hb7.mono HB6.out.size))
  clear hb7
  go_wp2_with fail
  refine (MEpoch_nil _).mono ?_
  rintro x w7 ⟨rfl, hb8⟩
  have HB8 := Lib.hid (HB7.out.trans (hb8.mono HB7.out.size))
  clear hb8
  go_wp2
  go_ret
  exact ⟨rfl, HB8.out⟩
end Go.Proofs.YtljcgpdjhjkciaaGreat
namespace Go.Proofs.YtljcgpdjhjkciaaGreat
open Go.RowKit

theorem part_errs (t : M.Lt) (l : List UInt8) : K.Errs (M.takeP t l) := by
  have hi : ∀ l, K.Errs (M.takeI l) := fun l => K.bind_errs (K.num_errs _) fun _ _ => K.ok_errs _ _
  have hc : ∀ {α : Type} (m : Nat) (take : List UInt8 → K.Rd α), (∀ l, K.Errs (take l)) → ∀ l, K.Errs (M.takeC m take l) := fun m take h l => K.bind_errs (K.num_errs _) fun _ _ => K.if_errs (K.bad_errs (by omega)) (K.takeN_errs h _ _)
  cases t with
  | n => exact K.bind_errs (hi l) fun _ _ => K.ok_errs _ _
  | c => exact K.bind_errs (hc 6 _ hi l) fun _ _ => K.ok_errs _ _
  | m => exact K.bind_errs (hc 30 M.takeMk (fun l => K.bind_errs (hi l) fun _ _ => K.bind_errs (hi _) fun _ _ => K.ok_errs _ _) l) fun _ _ => K.ok_errs _ _
  | e => exact K.bind_errs (hc 8 _ R.en_errs l) fun _ _ => K.ok_errs _ _
  | v => exact K.bind_errs (hc 16 _ E.ev_errs l) fun _ _ => K.ok_errs _ _
  | b => exact K.bind_errs (E.bat_errs l) fun _ _ => K.ok_errs _ _
  | s => exact K.bind_errs (K.txt_errs _ _) fun _ _ => K.ok_errs _ _
theorem parts_errs : ∀ (ts : List M.Lt) (l : List UInt8), K.Errs (M.takeS M.takeP ts l)
  | [], _ => K.ok_errs _ _
  | t :: ts, l => K.bind_errs (part_errs t l) fun _ r => K.bind_errs (parts_errs ts r) fun _ _ => K.ok_errs _ _
theorem take_errs {s : List UInt8} {e : Nat} (h : M.takeMsg s = Sum.inr e) : 0 < e := by
  cases s with
  | nil =>
    have h2 : (Sum.inr 3 : Sum M.Msg Nat) = Sum.inr e := h
    cases h2; omega
  | cons c r =>
    by_cases hs : M.shape c.toNat = []
    · rw [take_none hs] at h; cases h; omega
    · rcases ht : M.takeS M.takeP (M.shape c.toNat) r with ⟨ps, q⟩ | e2
      · rw [take_got hs ht] at h
        by_cases hc : ps.all M.rightP = true ∧ q = []
        · rw [if_pos hc] at h; cases h
        · rw [if_neg hc] at h; cases h; omega
      · rw [take_err hs ht] at h
        cases h
        exact parts_errs _ _ _ ht

/-- The method Kind of a message, called through the interface. -/
theorem kind_of (m : MV) (w0 : World) (hr : m.Reads w0) : ∃ (u : TypeId) (z : Value) (kf : Nat), m.val = .iface u z ∧ (∀ w : World, (method 298 u z "Kind").run Tryz.prog w = .ok (kf, z) w) ∧ (∀ w : World, (callFunc kf #[z]).run Tryz.prog w = .ok (.enter kf #[z]) w) ∧ (∀ w : World, Calls Tryz.prog kf #[z] w fun x w' => x = .returned (.int .i64 (m.kind : Int)) ∧ Below w.heap.size w w') := by
  cases m with
  | beat_ n1 n2 n3 => exact ⟨_, _, 120, rfl, (fun w => by kernel_rfl), (fun w => by kernel_rfl), fun w => kind_beat n1 n2 n3 w⟩
  | join_ n1 n2 => exact ⟨_, _, 121, rfl, (fun w => by kernel_rfl), (fun w => by kernel_rfl), fun w => kind_join n1 n2 w⟩
  | lease_ n1 n2 => exact ⟨_, _, 122, rfl, (fun w => by kernel_rfl), (fun w => by kernel_rfl), fun w => kind_lease n1 n2 w⟩
  | view_ n1 l1 v1 l2 v2 l3 v3 => exact ⟨_, _, 123, rfl, (fun w => by kernel_rfl), (fun w => by kernel_rfl), fun w => kind_view n1 v1 v2 v3 w (formI hr.1) (formI hr.2.1) (formI hr.2.2)⟩
  | where_ n1 => exact ⟨_, _, 124, rfl, (fun w => by kernel_rfl), (fun w => by kernel_rfl), fun w => kind_where n1 w⟩
  | have_ n1 n2 n3 l1 v1 => exact ⟨_, _, 125, rfl, (fun w => by kernel_rfl), (fun w => by kernel_rfl), fun w => kind_have n1 n2 n3 v1 w (formM hr)⟩
  | logs_ n1 n2 n3 n4 n5 n6 l1 v1 => exact ⟨_, _, 126, rfl, (fun w => by kernel_rfl), (fun w => by kernel_rfl), fun w => kind_logs n1 n2 n3 n4 n5 n6 v1 w (formR hr.1)⟩
  | ack_ n1 n2 n3 => exact ⟨_, _, 119, rfl, (fun w => by kernel_rfl), (fun w => by kernel_rfl), fun w => kind_ack n1 n2 n3 w⟩
  | ask_ n1 n2 n3 n4 => exact ⟨_, _, 127, rfl, (fun w => by kernel_rfl), (fun w => by kernel_rfl), fun w => kind_ask n1 n2 n3 n4 w⟩
  | told_ n1 n2 n3 n4 => exact ⟨_, _, 128, rfl, (fun w => by kernel_rfl), (fun w => by kernel_rfl), fun w => kind_told n1 n2 n3 n4 w⟩
  | append_ n1 bt v1 => exact ⟨_, _, 129, rfl, (fun w => by kernel_rfl), (fun w => by kernel_rfl), fun w => kind_append n1 bt v1 w (readsE_form hr.1)⟩
  | read_ n1 n2 s => exact ⟨_, _, 130, rfl, (fun w => by kernel_rfl), (fun w => by kernel_rfl), fun w => kind_read n1 n2 s w⟩
  | reply_ n1 n2 n3 n4 n5 n6 => exact ⟨_, _, 131, rfl, (fun w => by kernel_rfl), (fun w => by kernel_rfl), fun w => kind_reply n1 n2 n3 n4 n5 n6 w⟩
  | result_ n1 n2 n3 l1 v1 => exact ⟨_, _, 132, rfl, (fun w => by kernel_rfl), (fun w => by kernel_rfl), fun w => kind_result n1 n2 n3 v1 w (readsE_form hr.1)⟩
end Go.Proofs.YtljcgpdjhjkciaaGreat
namespace Go.Proofs.YtljcgpdjhjkciaaGreat
open Go.RowKit

theorem int_ok {z : Int} (h : M.numR z = true) : K.intOk z := by
  unfold M.numR M.large at h
  simp only [Bool.and_eq_true, decide_eq_true_eq] at h
  unfold K.intOk
  omega
def lett : M.Pt → M.Lt
  | .n _ => .n
  | .c _ => .c
  | .m _ => .m
  | .e _ => .e
  | .v _ => .v
  | .b _ => .b
  | .s _ => .s
theorem right_ok (p : M.Pt) (h : M.rightP p = true) : M.okP (lett p) p := by
  cases p with
  | n z => exact ⟨z, rfl, int_ok h⟩
  | c l =>
    simp only [M.rightP, Bool.and_eq_true, decide_eq_true_eq, List.all_eq_true] at h
    exact ⟨l, rfl, h.1, fun x hx => int_ok (h.2 x hx)⟩
  | m l =>
    simp only [M.rightP, Bool.and_eq_true, decide_eq_true_eq, List.all_eq_true] at h
    exact ⟨l, rfl, h.1, fun x hx => ⟨int_ok (h.2 x hx).1, int_ok (h.2 x hx).2⟩⟩
  | e l =>
    simp only [M.rightP, Bool.and_eq_true, decide_eq_true_eq, List.all_eq_true] at h
    exact ⟨l, rfl, h.1, fun x hx => R.en_ok (h.2 x hx)⟩
  | v l =>
    simp only [M.rightP, Bool.and_eq_true, decide_eq_true_eq, List.all_eq_true] at h
    refine ⟨l, rfl, h.1, fun x hx => ⟨?_, h.2 x hx⟩⟩
    have := E.right_bd (h.2 x hx)
    unfold K.txtOk
    omega
  | b x =>
    have h2 : E.fits x = 0 := by simpa [M.rightP] using h
    exact ⟨x, rfl, E.bat_ok h2⟩
  | s x =>
    refine ⟨x, rfl, ?_⟩
    have := nameL_len (show nameL x = true from h)
    unfold K.txtOk
    omega
theorem fits_of : ∀ (ps : List M.Pt), ps.all M.rightP = true → M.fits M.okP (ps.map lett) ps
  | [], _ => trivial
  | p :: ps, h => by
    simp only [List.all_cons, Bool.and_eq_true] at h
    exact ⟨right_ok p h.1, fits_of ps h.2⟩
theorem shape_of (m : MV) : M.shape m.kind = m.parts.map lett := by cases m <;> rfl
theorem right_fits (m : MV) (h : m.right = true) : M.fits M.okP (M.shape m.kind) m.parts := by
  rw [shape_of]
  exact fits_of _ h
theorem shape_ne (m : MV) : M.shape m.kind ≠ [] := by cases m <;> simp [MV.kind, M.shape]
theorem kind_le (m : MV) : 1 ≤ m.kind ∧ m.kind ≤ 14 := by cases m <;> simp [MV.kind]
theorem take_right (m : MV) (h : m.right = true) : M.takeMsg m.bytes = Sum.inl ⟨m.kind, m.parts⟩ :=
  M.take_back (m := ⟨m.kind, m.parts⟩) (by have := kind_le m; show m.kind < 256; omega) (shape_ne m) (right_fits m h) h
/-- The epoch, out of the kind and the parts. -/
def epochP : Nat → List M.Pt → Int
  | 1, _ :: .n z :: _ => z
  | 3, .n z :: _ => z
  | 4, .n z :: _ => z
  | 6, .n z :: _ => z
  | 7, .n z :: _ => z
  | 8, .n z :: _ => z
  | 9, .n z :: _ => z
  | 10, .n z :: _ => z
  | _, _ => 0
theorem epoch_is (m : MV) : m.epoch = epochP m.kind m.parts := by cases m <;> rfl
theorem same_epoch {m m2 : MV} (hk : m2.kind = m.kind) (hp : m2.parts = m.parts) : m2.epoch = m.epoch := by rw [epoch_is, epoch_is, hk, hp]
theorem same_right {m m2 : MV} (hp : m2.parts = m.parts) : m2.right = m.right := by unfold MV.right; rw [hp]
theorem bytes_cons (m : MV) : m.bytes = m.kind.toUInt8 :: m.parts.flatMap M.putP := rfl
theorem first_byte (m : MV) : N.bt m.bytes 0 = m.kind := by
  rw [bytes_cons]
  show (m.kind.toUInt8).toNat = m.kind
  have := kind_le m
  simp
  omega
theorem part_len (p : M.Pt) (h : M.rightP p = true) : (M.putP p).length ≤ 161000 := by
  have hi : ∀ z : Int, (M.putI z).length ≤ 6 := fun z => N.putL_len6 (N.held_le z)
  have hf : ∀ {α : Type} (f : α → List UInt8) (c : Nat) (l : List α), (∀ a ∈ l, (f a).length ≤ c) → (l.flatMap f).length ≤ c * l.length := by
    intro α f c l
    induction l with
    | nil => intro _; simp
    | cons a l ih =>
      intro hl
      have h1 := hl a (by simp)
      have h2 := ih fun b hb => hl b (by simp [hb])
      rw [List.flatMap_cons, List.length_append, List.length_cons, Nat.mul_add]
      omega
  have hl : ∀ n : Nat, n ≤ 100 → (N.putL n).length ≤ 6 := fun n hn => N.putL_len6 (by omega)
  cases p with
  | n z => have := hi z; show (M.putI z).length ≤ _; omega
  | c l =>
    simp only [M.rightP, Bool.and_eq_true, decide_eq_true_eq, List.all_eq_true] at h
    have h1 := hf M.putI 6 l (fun a _ => hi a)
    have h2 := hl l.length (by omega)
    show (N.putL l.length ++ l.flatMap M.putI).length ≤ _
    rw [List.length_append]
    have := Nat.mul_le_mul_left 6 h.1
    omega
  | m l =>
    simp only [M.rightP, Bool.and_eq_true, decide_eq_true_eq, List.all_eq_true] at h
    have h1 := hf M.putM 12 l (fun a _ => by unfold M.putM; rw [List.length_append]; have := hi a.1; have := hi a.2; omega)
    have h2 := hl l.length (by omega)
    show (N.putL l.length ++ l.flatMap M.putM).length ≤ _
    rw [List.length_append]
    have := Nat.mul_le_mul_left 12 h.1
    omega
  | e l =>
    simp only [M.rightP, Bool.and_eq_true, decide_eq_true_eq, List.all_eq_true] at h
    have h1 := hf R.bytes 20012 l (fun a ha => R.bytes_len (h.2 a ha))
    have h2 := hl l.length (by omega)
    show (N.putL l.length ++ l.flatMap R.bytes).length ≤ _
    rw [List.length_append]
    have := Nat.mul_le_mul_left 20012 h.1
    omega
  | v l =>
    simp only [M.rightP, Bool.and_eq_true, decide_eq_true_eq, List.all_eq_true] at h
    have h1 := hf E.putE 2012 l (fun a ha => by have := E.right_bd (h.2 a ha); exact E.putE_len (by omega) (by omega))
    have h2 := hl l.length (by omega)
    show (N.putL l.length ++ l.flatMap E.putE).length ≤ _
    rw [List.length_append]
    have := Nat.mul_le_mul_left 2012 h.1
    omega
  | b x =>
    have h2 : E.fits x = 0 := by simpa [M.rightP] using h
    have := E.bytes_len h2
    show (E.bytes x).length ≤ _
    omega
  | s x =>
    have := nameL_len (show nameL x = true from h)
    have := N.putT_len (l := x) (by omega)
    show (N.putT x).length ≤ _
    omega
/-- What a part may take. -/
def wt : M.Pt → Nat
  | .n _ => 6
  | _ => 161000
theorem part_wt (p : M.Pt) (h : M.rightP p = true) : (M.putP p).length ≤ wt p := by
  cases p with
  | n z => exact N.putL_len6 (N.held_le z)
  | c l => exact part_len _ h
  | m l => exact part_len _ h
  | e l => exact part_len _ h
  | v l => exact part_len _ h
  | b x => exact part_len _ h
  | s x => exact part_len _ h
theorem parts_len7 : ∀ (ps : List M.Pt), ps.all M.rightP = true → (ps.flatMap M.putP).length ≤ (ps.map wt).sum
  | [], _ => by simp
  | p :: ps, h => by
    simp only [List.all_cons, Bool.and_eq_true] at h
    have h1 := part_wt p h.1
    have h2 := parts_len7 ps h.2
    rw [List.flatMap_cons, List.length_append, List.map_cons, List.sum_cons]
    omega
theorem parts_many (m : MV) : (m.parts.map wt).sum ≤ 490000 := by cases m <;> simp [MV.parts, wt]
theorem bytes_len (m : MV) (h : m.right = true) : m.bytes.length ≤ 900000 := by
  rw [bytes_cons, List.length_cons]
  have h1 := parts_len7 m.parts h
  have h2 := parts_many m
  omega
/-- With a byte less. -/
theorem take_less (m : MV) (h : m.right = true) : M.takeMsg (m.bytes.take (m.bytes.length - 1)) = Sum.inr 3 := by
  rw [bytes_cons]
  have hne : 0 < (m.parts.flatMap M.putP).length := by
    have hb : ∀ z : Int, M.putI z ≠ [] := fun z => N.putL_ne _
    have : m.parts.flatMap M.putP ≠ [] := by
      cases m <;> simp [MV.parts, M.putP, hb]
    exact List.length_pos_iff.2 this
  generalize hB : m.parts.flatMap M.putP = body at *
  have e1 : (m.kind.toUInt8 :: body).take ((m.kind.toUInt8 :: body).length - 1) = m.kind.toUInt8 :: body.take (body.length - 1) := by
    rw [List.length_cons, Nat.add_sub_cancel]
    obtain ⟨n, hn⟩ : ∃ n, body.length = n + 1 := ⟨body.length - 1, by omega⟩
    rw [hn, List.take_succ_cons, Nat.add_sub_cancel]
  rw [e1]
  have hk := kind_le m
  have e2 : (m.kind.toUInt8).toNat = m.kind := by simp; omega
  have hc := (M.bodyC m.kind).cut m.parts (body.length - 1) (right_fits m h) (by rw [hB]; omega)
  rw [hB] at hc
  exact take_err (by rw [e2]; exact shape_ne m) (by rw [e2]; exact hc)
/-- With a byte more. -/
theorem take_more (m : MV) (h : m.right = true) (c : UInt8) : M.takeMsg (m.bytes ++ [c]) = Sum.inr 2 := by
  rw [bytes_cons, List.cons_append]
  have hk := kind_le m
  have e2 : (m.kind.toUInt8).toNat = m.kind := by simp; omega
  have hb := (M.bodyC m.kind).back m.parts [c] (right_fits m h)
  rw [take_got (by rw [e2]; exact shape_ne m) (by rw [e2]; exact hb), if_neg (by simp)]
end Go.Proofs.YtljcgpdjhjkciaaGreat
