/-
  The walk of Take of package message, at any bytes.
-/
import Derived.Test.YtljcgpdjhjkciaaMsgTake
namespace Go.Proofs.Ytljcgpdjhjkciaa
open Go.RowKit
attribute [local go_sem] ext_Bd ext_Bl ext_Bt toList_B add_B size_B get_Bt

theorem MV.reads_below {w w' : World} {m : MV} (h : m.Reads w) (hb : Below w.heap.size w w') : m.Reads w' := by
  cases m with
  | beat_ n1 n2 n3 => exact trivial
  | join_ n1 n2 => exact trivial
  | lease_ n1 n2 => exact trivial
  | view_ n1 l1 v1 l2 v2 l3 v3 => exact ⟨readsI_below h.1 hb, readsI_below h.2.1 hb, readsI_below h.2.2 hb⟩
  | where_ n1 => exact trivial
  | have_ n1 n2 n3 l1 v1 => exact readsM_below h hb
  | logs_ n1 n2 n3 n4 n5 n6 l1 v1 => exact ⟨readsR_below h.1 hb, h.2⟩
  | ack_ n1 n2 n3 => exact trivial
  | ask_ n1 n2 n3 n4 => exact trivial
  | told_ n1 n2 n3 n4 => exact trivial
  | append_ n1 bt v1 => exact ⟨readsE_below h.1 hb, h.2⟩
  | read_ n1 n2 s => exact h
  | reply_ n1 n2 n3 n4 n5 n6 => exact trivial
  | result_ n1 n2 n3 l1 v1 => exact ⟨readsE_below h.1 hb, h.2⟩
theorem shape_none {c : Nat} (h : M.shape c = []) (_hc : c < 256) : c = 0 ∨ 14 < c := by
  match c, h with
  | 0, _ => exact .inl rfl
  | c + 15, _ => exact .inr (by omega)
theorem message_at {p : Nat} {w : World} {l : List UInt8} (c : Nat) (hc : M.shape c ≠ []) (h : RM p (.inl l) w) (res : K.Rd (List M.Pt)) (H : Hid (M.takeS M.takeP (M.shape c) l = res)) :
    Calls Try.prog 20 #[rdP p, .int .u8 c] w (MsgPost p c w res) := by
  match c, hc, H with
  | 0, hc, _ => exact absurd rfl hc
  | 1, _, H => exact message_beat h res H
  | 2, _, H => exact message_join h res H
  | 3, _, H => exact message_lease h res H
  | 4, _, H => exact message_view h res H
  | 5, _, H => exact message_where h res H
  | 6, _, H => exact message_have h res H
  | 7, _, H => exact message_logs h res H
  | 8, _, H => exact message_ack h res H
  | 9, _, H => exact message_ask h res H
  | 10, _, H => exact message_told h res H
  | 11, _, H => exact message_append h res H
  | 12, _, H => exact message_read h res H
  | 13, _, H => exact message_reply h res H
  | 14, _, H => exact message_result h res H
  | c + 15, hc, _ => exact absurd rfl hc
/-- What Take answers. -/
def TakePost (w : World) (o : Sum M.Msg Nat) (x : Ending) (w' : World) : Prop :=
  Below w.heap.size w w' ∧ match o with
    | .inl g => ∃ m : MV, x = .returned (.tuple #[m.val, .int .i64 0]) ∧ m.kind = g.kind ∧ m.parts = g.parts ∧ m.Reads w'
    | .inr e => x = .returned (.tuple #[.nilIface, .int .i64 (e : Int)])
theorem take_none {c : UInt8} {r : List UInt8} (h : M.shape c.toNat = []) : M.takeMsg (c :: r) = Sum.inr 2 := by
  unfold M.takeMsg
  dsimp only
  rw [if_pos h]
theorem take_err {c : UInt8} {r : List UInt8} {e : Nat} (h : M.shape c.toNat ≠ []) (h2 : M.takeS M.takeP (M.shape c.toNat) r = Sum.inr e) : M.takeMsg (c :: r) = Sum.inr e := by
  unfold M.takeMsg
  dsimp only
  rw [if_neg h, h2]
theorem take_got {c : UInt8} {r q : List UInt8} {ps : List M.Pt} (h : M.shape c.toNat ≠ []) (h2 : M.takeS M.takeP (M.shape c.toNat) r = Sum.inl (ps, q)) : M.takeMsg (c :: r) = if ps.all M.rightP = true ∧ q = [] then Sum.inl ⟨c.toNat, ps⟩ else Sum.inr 2 := by
  unfold M.takeMsg
  dsimp only
  rw [if_neg h, h2]
theorem iface_ne (W : World) (u : TypeId) (v : Value) : (binOp .eql 34 (.iface u v) .nilIface).run Try.prog W = .ok (.bool false) W := not_nil W u v

set_option maxHeartbeats 4000000 in
set_option maxRecDepth 100000 in
theorem MTake_at (s : List UInt8) (o : Sum M.Msg Nat) (w : World) (hs : s.length ≤ 1000000) (H : Hid (M.takeMsg s = o)) :
    Calls Try.prog 13 #[.string (B s)] w (TakePost w o) := by
  have hnn := not_nil
  have hin := is_nil
  match s, hs, H with
  | [], _, H =>
    have e := H.out
    obtain rfl : o = Sum.inr 3 := e.symm
    clear H e
    go_enter Try.func13, Try.ntmps13
    go_wp2
    go_ret2
    exact ⟨Below.refl _ _, rfl⟩
  | c :: r, hs, H =>
    have hse : (c :: r).isEmpty = false := rfl
    have hl1 : (1 : Int) ≤ ((c :: r).length : Int) := by simp only [List.length_cons]; omega
    have hd : (c :: r).tail = r := rfl
    have hg0 : N.bt (c :: r) 0 = c.toNat := rfl
    have hrl : r.length ≤ 1000000 := by simp at hs; omega
    obtain ⟨k, HK⟩ : ∃ k, Hid (c.toNat = k) := ⟨_, Lib.hid rfl⟩
    have hk256 : k < 256 := by rw [← HK.out]; exact c.toNat_lt
    rw [HK.out] at hg0
    obtain ⟨s, HS⟩ : ∃ s, Hid (c :: r = s) := ⟨_, Lib.hid rfl⟩
    have HN : Hid (M.shape k = [] → o = Sum.inr 2) := Lib.hid fun h => by rw [← H.out]; exact take_none (by rw [HK.out]; exact h)
    have HER : Hid (∀ e, M.shape k ≠ [] → M.takeS M.takeP (M.shape k) r = Sum.inr e → o = Sum.inr e) := Lib.hid fun e h h2 => by rw [← H.out]; exact take_err (by rw [HK.out]; exact h) (by rw [HK.out]; exact h2)
    have HGT : Hid (∀ ps q, M.shape k ≠ [] → M.takeS M.takeP (M.shape k) r = Sum.inl (ps, q) → o = if ps.all M.rightP = true ∧ q = [] then Sum.inl ⟨k, ps⟩ else Sum.inr 2) := Lib.hid fun ps q h h2 => by rw [← H.out, ← HK.out]; exact take_got (by rw [HK.out]; exact h) (by rw [HK.out]; exact h2)
    rw [HS.out] at hse hl1 hd hg0 ⊢
    have HM0 : Hid (RM w.heap.size (.inl r) (w.alloc (.cells #[.string (B s.tail), .int .i64 0] 90))) := Lib.hid ⟨r, 0, by rw [hd]; exact new_at rfl, hrl, rfl, rfl⟩
    have HB0 := Lib.hid ((Below.refl _ w).alloc (Nat.le_refl _) (.cells #[.string (B s.tail), .int .i64 0] 90))
    clear H HS HK hs hd
    by_cases hsh : M.shape k = []
    · have HO := Lib.hid (HN.out hsh)
      have hkk := shape_none hsh hk256
      have HKK := Lib.hid hkk
      clear hsh hkk HER HGT HN
      go_enter Try.func13, Try.ntmps13
      go_wp2_with fail
      refine (message_none (p := w.heap.size) k HKK.out).mono ?_
      rintro x w1 ⟨rfl, rfl⟩
      go_wp2
      go_ret2
      rw [HO.out]
      exact ⟨HB0.out, rfl⟩
    · obtain ⟨res, HR⟩ : ∃ x, Hid (M.takeS M.takeP (M.shape k) r = x) := ⟨_, Lib.hid rfl⟩
      have HSH := Lib.hid hsh
      clear hsh HN
      go_enter Try.func13, Try.ntmps13
      go_wp2_with fail
      refine (message_at k HSH.out HM0.out res HR).mono ?_
      rintro x w1 ⟨⟨u, z, rfl, hm⟩, hrm, hg⟩
      have HBW : Hid (Below w.heap.size w w1) := Lib.hid (HB0.out.grown hg HB0.out.size (fun j hj => by cases hj; exact Nat.le_refl _))
      clear hg HB0 HM0
      rcases res with ⟨ps, q⟩ | e
      · obtain ⟨m, hmv, hk, hp, hrd⟩ := hm ps q rfl
        obtain ⟨left, err, hc, hl, rfl, rfl⟩ := hrm
        have HO := Lib.hid (HGT.out ps left HSH.out HR.out)
        have HRD := Lib.hid hrd
        have HKP : Hid (m.kind = k ∧ m.parts = ps) := Lib.hid ⟨hk, hp⟩
        have HMV := Lib.hid hmv
        obtain ⟨b, HBB⟩ : ∃ b, Hid (m.right = b) := ⟨_, Lib.hid rfl⟩
        have HCR : Hid (Calls Try.prog 11 #[.iface u z] w1 fun x w' => x = .returned (.bool b) ∧ Below w1.heap.size w1 w') := Lib.hid (by rw [hmv]; exact MRight_at m b w1 hrd HBB)
        have HPR : Hid (ps.all M.rightP = b) := Lib.hid (by rw [← HBB.out, ← hp]; rfl)
        have HC := Lib.hid hc
        obtain ⟨c0, c1, l0, l1⟩ := hc.cells
        clear hm hmv hk hp hrd hc HGT HER HR HSH HBB
        go_wp2_with fail
        refine HCR.out.mono ?_
        rintro x w2 ⟨rfl, hb2⟩
        have hc2 := HC.out.low hb2
        obtain ⟨d0, d1, m0, m1⟩ := hc2.cells
        have HB2 := Lib.hid (HBW.out.trans (hb2.mono HBW.out.size))
        have HRD2 := Lib.hid (MV.reads_below HRD.out hb2)
        clear hb2 hc2 HC HRD HBW
        cases b
        · have HOO := Lib.hid (show o = Sum.inr 2 by rw [HO.out, if_neg (fun h => by rw [HPR.out] at h; exact absurd h.1 (by decide))])
          go_wp2
          go_ret2
          rw [HOO.out]
          exact ⟨HB2.out, rfl⟩
        · by_cases hq : left = []
          · have hqe : left.isEmpty = true := by rw [hq]; rfl
            have HOO := Lib.hid (show o = Sum.inl ⟨k, ps⟩ by rw [HO.out, if_pos ⟨HPR.out, hq⟩])
            clear hq
            go_wp2
            go_ret2
            rw [HOO.out]
            exact ⟨HB2.out, m, by rw [← HMV.out]; rfl, HKP.out.1, HKP.out.2, HRD2.out⟩
          · have hqe : left.isEmpty = false := by cases left <;> simp at hq ⊢
            have HOO := Lib.hid (show o = Sum.inr 2 by rw [HO.out, if_neg (fun h => hq h.2)])
            clear hq
            go_wp2
            go_ret2
            rw [HOO.out]
            exact ⟨HB2.out, rfl⟩
      · obtain ⟨left, err, hc, hl, rfl, hpos⟩ := hrm
        have HO := Lib.hid (HER.out err HSH.out HR.out)
        obtain ⟨hp1, hp2⟩ := err_bd hpos
        obtain ⟨c0, c1, l0, l1⟩ := hc.cells
        clear hm hc HGT HER HR HSH
        go_wp2
        go_quiet (fail)
        go_wp2
        go_ret2
        rw [HO.out]
        exact ⟨below_quiet HBW.out ⟨_, rfl⟩, rfl⟩
end Go.Proofs.Ytljcgpdjhjkciaa
