/-
  The reader of package message: a message of each kind.
-/
import Derived.Test.YtljcgpdjhjkciaaMsgChain
namespace Go.Proofs.Ytljcgpdjhjkciaa
open Go.RowKit
attribute [local go_sem] ext_Bd ext_Bl ext_Bt toList_B add_B size_B get_Bt

def MsgPost (p k : Nat) (w : World) (res : K.Rd (List M.Pt)) (x : Ending) (w' : World) : Prop :=
  (∃ (u : TypeId) (z : Value), x = .returned (.iface u z) ∧ (∀ ps r, res = Sum.inl (ps, r) → ∃ m : MV, .iface u z = m.val ∧ m.kind = k ∧ m.parts = ps ∧ m.Reads w')) ∧ RM p (rest res) w' ∧ w.grownBy w' (some p)

theorem right_i64 {e : R.En} (h : R.right e = true) : i64B e.pos := by
  have h5 := R.right_iff.1 h
  have hlg : R.large = 274877906944 := rfl
  exact ⟨by omega, by omega⟩
set_option maxHeartbeats 1000000 in
set_option maxRecDepth 100000 in
theorem message_none {p : Nat} {w : World} (c : Nat) (hc : c = 0 ∨ 14 < c) :
    Calls Try.prog 20 #[rdP p, .int .u8 c] w fun x w' => x = .returned .nilIface ∧ w = w' := by
  have h1 : ((c : Int) == 1) = false := beq_eq_false_iff_ne.2 (by omega)
  have h2 : ((c : Int) == 2) = false := beq_eq_false_iff_ne.2 (by omega)
  have h3 : ((c : Int) == 3) = false := beq_eq_false_iff_ne.2 (by omega)
  have h4 : ((c : Int) == 4) = false := beq_eq_false_iff_ne.2 (by omega)
  have h5 : ((c : Int) == 5) = false := beq_eq_false_iff_ne.2 (by omega)
  have h6 : ((c : Int) == 6) = false := beq_eq_false_iff_ne.2 (by omega)
  have h7 : ((c : Int) == 7) = false := beq_eq_false_iff_ne.2 (by omega)
  have h8 : ((c : Int) == 8) = false := beq_eq_false_iff_ne.2 (by omega)
  have h9 : ((c : Int) == 9) = false := beq_eq_false_iff_ne.2 (by omega)
  have h10 : ((c : Int) == 10) = false := beq_eq_false_iff_ne.2 (by omega)
  have h11 : ((c : Int) == 11) = false := beq_eq_false_iff_ne.2 (by omega)
  have h12 : ((c : Int) == 12) = false := beq_eq_false_iff_ne.2 (by omega)
  have h13 : ((c : Int) == 13) = false := beq_eq_false_iff_ne.2 (by omega)
  have h14 : ((c : Int) == 14) = false := beq_eq_false_iff_ne.2 (by omega)
  clear hc
  go_enter Try.func20, Try.ntmps20
  go_wp2
  go_ret
  exact ⟨rfl, rfl⟩

set_option maxHeartbeats 4000000 in
set_option maxRecDepth 100000 in
theorem message_beat {p : Nat} {w : World} {l : List UInt8} (h : RM p (.inl l) w) (res : K.Rd (List M.Pt)) (H : Hid (M.takeS M.takeP (M.shape 1) l = res)) :
    Calls Try.prog 20 #[rdP p, .int .u8 1] w (MsgPost p 1 w res) := by
  have hplt := h.lt
  have hmf : ∀ (fn : Fn) (first cap : Array Value) (w : World), (Instr.makeFunc fn first cap).run Try.prog w = .ok (.func fn first cap) w := fun _ _ _ _ => rfl
  obtain ⟨res1, H1⟩ : ∃ x, Hid (run M.takeI (.inl l) = x) := ⟨_, Lib.hid rfl⟩
  obtain ⟨res2, H2⟩ : ∃ x, Hid (run M.takeI (rest res1) = x) := ⟨_, Lib.hid rfl⟩
  obtain ⟨res3, H3⟩ : ∃ x, Hid (run M.takeI (rest res2) = x) := ⟨_, Lib.hid rfl⟩
  have hch : Ch (M.shape 1) (.inl l) [M.as .n res1, M.as .n res2, M.as .n res3] (rest (M.as .n res3)) := Ch.cons (x := M.as .n res1) (by rw [run_n, H1.out]) (Ch.cons (x := M.as .n res2) (by rw [run_n, rest_as, H2.out]) (Ch.cons (x := M.as .n res3) (by rw [run_n, rest_as, H3.out]) (Ch.nil _)))
  have hcr := ch_run hch
  rw [rest_as] at hcr
  have HE : Hid (comb [M.as .n res1, M.as .n res2, M.as .n res3] (.inl l) = res) := Lib.hid (by rw [← hcr.1]; exact H.out)
  have HRR : Hid (rest res = rest res3) := Lib.hid (by rw [← HE.out]; exact hcr.2)
  have HM0 := Lib.hid h
  have HG0 : Hid (w.grownBy w (some p)) := Lib.hid (grown_refl _ _)
  clear h H hch hcr
  go_enter Try.func20, Try.ntmps20
  go_wp2_with fail
  refine (rm_number HM0.out res1 H1).mono ?_
  rintro x w1 ⟨⟨z1, rfl, hz⟩, h1, hg1⟩
  have HZ1 := Lib.hid hz
  have HM1 := Lib.hid h1
  have HG1 := Lib.hid (HG0.out.trans hg1)
  clear hz h1 hg1 HM0 HG0
  go_wp2_with fail
  refine (rm_number HM1.out res2 H2).mono ?_
  rintro x w2 ⟨⟨z2, rfl, hz⟩, h1, hg1⟩
  have HZ2 := Lib.hid hz
  have HM2 := Lib.hid h1
  have HG2 := Lib.hid (HG1.out.trans hg1)
  clear hz h1 hg1 HM1 HG1
  go_wp2_with fail
  refine (rm_number HM2.out res3 H3).mono ?_
  rintro x w3 ⟨⟨z3, rfl, hz⟩, h1, hg1⟩
  have HZ3 := Lib.hid hz
  have HM3 := Lib.hid h1
  have HG3 := Lib.hid (HG2.out.trans hg1)
  clear hz h1 hg1 HM2 HG2
  have HT : Hid (∀ ps r, res = Sum.inl (ps, r) → ∃ m : MV, .iface 59 (.agg #[.int .i64 z1, .int .i64 z2, .int .i64 z3]) = m.val ∧ m.kind = 1 ∧ m.parts = ps ∧ m.Reads w3) := Lib.hid fun ps r hres => by
    have hcb := HE.out.trans hres
    obtain ⟨p1, r1, q1, e1, h1, rfl⟩ := comb_cons hcb
    obtain ⟨x1, f1, rfl⟩ := as_inl e1
    obtain ⟨p2, r2, q2, e2, h2, rfl⟩ := comb_cons h1
    obtain ⟨x2, f2, rfl⟩ := as_inl e2
    obtain ⟨p3, r3, q3, e3, h3, rfl⟩ := comb_cons h2
    obtain ⟨x3, f3, rfl⟩ := as_inl e3
    obtain rfl := comb_nil h3
    obtain rfl := HZ1.out _ _ f1
    obtain rfl := HZ2.out _ _ f2
    obtain rfl := HZ3.out _ _ f3
    exact ⟨.beat_ z1 z2 z3, rfl, rfl, rfl, trivial⟩
  clear HZ1 HZ2 HZ3 H1 H2 H3 HE
  go_wp2
  go_ret
  exact ⟨⟨_, _, rfl, HT.out⟩, by rw [HRR.out]; exact HM3.out, HG3.out⟩

set_option maxHeartbeats 4000000 in
set_option maxRecDepth 100000 in
theorem message_join {p : Nat} {w : World} {l : List UInt8} (h : RM p (.inl l) w) (res : K.Rd (List M.Pt)) (H : Hid (M.takeS M.takeP (M.shape 2) l = res)) :
    Calls Try.prog 20 #[rdP p, .int .u8 2] w (MsgPost p 2 w res) := by
  have hplt := h.lt
  have hmf : ∀ (fn : Fn) (first cap : Array Value) (w : World), (Instr.makeFunc fn first cap).run Try.prog w = .ok (.func fn first cap) w := fun _ _ _ _ => rfl
  obtain ⟨res1, H1⟩ : ∃ x, Hid (run M.takeI (.inl l) = x) := ⟨_, Lib.hid rfl⟩
  obtain ⟨res2, H2⟩ : ∃ x, Hid (run M.takeI (rest res1) = x) := ⟨_, Lib.hid rfl⟩
  have hch : Ch (M.shape 2) (.inl l) [M.as .n res1, M.as .n res2] (rest (M.as .n res2)) := Ch.cons (x := M.as .n res1) (by rw [run_n, H1.out]) (Ch.cons (x := M.as .n res2) (by rw [run_n, rest_as, H2.out]) (Ch.nil _))
  have hcr := ch_run hch
  rw [rest_as] at hcr
  have HE : Hid (comb [M.as .n res1, M.as .n res2] (.inl l) = res) := Lib.hid (by rw [← hcr.1]; exact H.out)
  have HRR : Hid (rest res = rest res2) := Lib.hid (by rw [← HE.out]; exact hcr.2)
  have HM0 := Lib.hid h
  have HG0 : Hid (w.grownBy w (some p)) := Lib.hid (grown_refl _ _)
  clear h H hch hcr
  go_enter Try.func20, Try.ntmps20
  go_wp2_with fail
  refine (rm_number HM0.out res1 H1).mono ?_
  rintro x w1 ⟨⟨z1, rfl, hz⟩, h1, hg1⟩
  have HZ1 := Lib.hid hz
  have HM1 := Lib.hid h1
  have HG1 := Lib.hid (HG0.out.trans hg1)
  clear hz h1 hg1 HM0 HG0
  go_wp2_with fail
  refine (rm_number HM1.out res2 H2).mono ?_
  rintro x w2 ⟨⟨z2, rfl, hz⟩, h1, hg1⟩
  have HZ2 := Lib.hid hz
  have HM2 := Lib.hid h1
  have HG2 := Lib.hid (HG1.out.trans hg1)
  clear hz h1 hg1 HM1 HG1
  have HT : Hid (∀ ps r, res = Sum.inl (ps, r) → ∃ m : MV, .iface 61 (.agg #[.int .i64 z1, .int .i64 z2]) = m.val ∧ m.kind = 2 ∧ m.parts = ps ∧ m.Reads w2) := Lib.hid fun ps r hres => by
    have hcb := HE.out.trans hres
    obtain ⟨p1, r1, q1, e1, h1, rfl⟩ := comb_cons hcb
    obtain ⟨x1, f1, rfl⟩ := as_inl e1
    obtain ⟨p2, r2, q2, e2, h2, rfl⟩ := comb_cons h1
    obtain ⟨x2, f2, rfl⟩ := as_inl e2
    obtain rfl := comb_nil h2
    obtain rfl := HZ1.out _ _ f1
    obtain rfl := HZ2.out _ _ f2
    exact ⟨.join_ z1 z2, rfl, rfl, rfl, trivial⟩
  clear HZ1 HZ2 H1 H2 HE
  go_wp2
  go_ret
  exact ⟨⟨_, _, rfl, HT.out⟩, by rw [HRR.out]; exact HM2.out, HG2.out⟩

set_option maxHeartbeats 4000000 in
set_option maxRecDepth 100000 in
theorem message_lease {p : Nat} {w : World} {l : List UInt8} (h : RM p (.inl l) w) (res : K.Rd (List M.Pt)) (H : Hid (M.takeS M.takeP (M.shape 3) l = res)) :
    Calls Try.prog 20 #[rdP p, .int .u8 3] w (MsgPost p 3 w res) := by
  have hplt := h.lt
  have hmf : ∀ (fn : Fn) (first cap : Array Value) (w : World), (Instr.makeFunc fn first cap).run Try.prog w = .ok (.func fn first cap) w := fun _ _ _ _ => rfl
  obtain ⟨res1, H1⟩ : ∃ x, Hid (run M.takeI (.inl l) = x) := ⟨_, Lib.hid rfl⟩
  obtain ⟨res2, H2⟩ : ∃ x, Hid (run M.takeI (rest res1) = x) := ⟨_, Lib.hid rfl⟩
  have hch : Ch (M.shape 3) (.inl l) [M.as .n res1, M.as .n res2] (rest (M.as .n res2)) := Ch.cons (x := M.as .n res1) (by rw [run_n, H1.out]) (Ch.cons (x := M.as .n res2) (by rw [run_n, rest_as, H2.out]) (Ch.nil _))
  have hcr := ch_run hch
  rw [rest_as] at hcr
  have HE : Hid (comb [M.as .n res1, M.as .n res2] (.inl l) = res) := Lib.hid (by rw [← hcr.1]; exact H.out)
  have HRR : Hid (rest res = rest res2) := Lib.hid (by rw [← HE.out]; exact hcr.2)
  have HM0 := Lib.hid h
  have HG0 : Hid (w.grownBy w (some p)) := Lib.hid (grown_refl _ _)
  clear h H hch hcr
  go_enter Try.func20, Try.ntmps20
  go_wp2_with fail
  refine (rm_number HM0.out res1 H1).mono ?_
  rintro x w1 ⟨⟨z1, rfl, hz⟩, h1, hg1⟩
  have HZ1 := Lib.hid hz
  have HM1 := Lib.hid h1
  have HG1 := Lib.hid (HG0.out.trans hg1)
  clear hz h1 hg1 HM0 HG0
  go_wp2_with fail
  refine (rm_number HM1.out res2 H2).mono ?_
  rintro x w2 ⟨⟨z2, rfl, hz⟩, h1, hg1⟩
  have HZ2 := Lib.hid hz
  have HM2 := Lib.hid h1
  have HG2 := Lib.hid (HG1.out.trans hg1)
  clear hz h1 hg1 HM1 HG1
  have HT : Hid (∀ ps r, res = Sum.inl (ps, r) → ∃ m : MV, .iface 63 (.agg #[.int .i64 z1, .int .i64 z2]) = m.val ∧ m.kind = 3 ∧ m.parts = ps ∧ m.Reads w2) := Lib.hid fun ps r hres => by
    have hcb := HE.out.trans hres
    obtain ⟨p1, r1, q1, e1, h1, rfl⟩ := comb_cons hcb
    obtain ⟨x1, f1, rfl⟩ := as_inl e1
    obtain ⟨p2, r2, q2, e2, h2, rfl⟩ := comb_cons h1
    obtain ⟨x2, f2, rfl⟩ := as_inl e2
    obtain rfl := comb_nil h2
    obtain rfl := HZ1.out _ _ f1
    obtain rfl := HZ2.out _ _ f2
    exact ⟨.lease_ z1 z2, rfl, rfl, rfl, trivial⟩
  clear HZ1 HZ2 H1 H2 HE
  go_wp2
  go_ret
  exact ⟨⟨_, _, rfl, HT.out⟩, by rw [HRR.out]; exact HM2.out, HG2.out⟩

set_option maxHeartbeats 4000000 in
set_option maxRecDepth 100000 in
theorem message_view {p : Nat} {w : World} {l : List UInt8} (h : RM p (.inl l) w) (res : K.Rd (List M.Pt)) (H : Hid (M.takeS M.takeP (M.shape 4) l = res)) :
    Calls Try.prog 20 #[rdP p, .int .u8 4] w (MsgPost p 4 w res) := by
  have hplt := h.lt
  have hmf : ∀ (fn : Fn) (first cap : Array Value) (w : World), (Instr.makeFunc fn first cap).run Try.prog w = .ok (.func fn first cap) w := fun _ _ _ _ => rfl
  obtain ⟨res1, H1⟩ : ∃ x, Hid (run M.takeI (.inl l) = x) := ⟨_, Lib.hid rfl⟩
  obtain ⟨res2, H2⟩ : ∃ x, Hid (run (M.takeC 6 M.takeI) (rest res1) = x) := ⟨_, Lib.hid rfl⟩
  obtain ⟨res3, H3⟩ : ∃ x, Hid (run (M.takeC 6 M.takeI) (rest res2) = x) := ⟨_, Lib.hid rfl⟩
  obtain ⟨res4, H4⟩ : ∃ x, Hid (run (M.takeC 6 M.takeI) (rest res3) = x) := ⟨_, Lib.hid rfl⟩
  have hch : Ch (M.shape 4) (.inl l) [M.as .n res1, M.as .c res2, M.as .c res3, M.as .c res4] (rest (M.as .c res4)) := Ch.cons (x := M.as .n res1) (by rw [run_n, H1.out]) (Ch.cons (x := M.as .c res2) (by rw [run_c, rest_as, H2.out]) (Ch.cons (x := M.as .c res3) (by rw [run_c, rest_as, H3.out]) (Ch.cons (x := M.as .c res4) (by rw [run_c, rest_as, H4.out]) (Ch.nil _))))
  have hcr := ch_run hch
  rw [rest_as] at hcr
  have HE : Hid (comb [M.as .n res1, M.as .c res2, M.as .c res3, M.as .c res4] (.inl l) = res) := Lib.hid (by rw [← hcr.1]; exact H.out)
  have HRR : Hid (rest res = rest res4) := Lib.hid (by rw [← HE.out]; exact hcr.2)
  have HM0 := Lib.hid h
  have HG0 : Hid (w.grownBy w (some p)) := Lib.hid (grown_refl _ _)
  clear h H hch hcr
  go_enter Try.func20, Try.ntmps20
  go_wp2_with fail
  refine (rm_number HM0.out res1 H1).mono ?_
  rintro x w1 ⟨⟨z1, rfl, hz⟩, h1, hg1⟩
  have HZ1 := Lib.hid hz
  have HM1 := Lib.hid h1
  have HG1 := Lib.hid (HG0.out.trans hg1)
  clear hz h1 hg1 HM0 HG0
  go_wp2_with fail
  refine (rm_nodes HM1.out res2 H2).mono ?_
  rintro x w2 ⟨⟨v2, xs2, rfl, how, hz⟩, h1, hg1⟩
  have HZ2 := Lib.hid hz
  have HO2 := Lib.hid (own_base5 (b := w.heap.size) how HG1.out.size)
  obtain ⟨a2, c2, rfl, -⟩ := own_slice how
  have HM2 := Lib.hid h1
  have HG2 := Lib.hid (HG1.out.trans hg1)
  clear hz h1 hg1 how HM1 HG1
  go_wp2_with fail
  refine (rm_nodes HM2.out res3 H3).mono ?_
  rintro x w3 ⟨⟨v3, xs3, rfl, how, hz⟩, h1, hg1⟩
  have HZ3 := Lib.hid hz
  have HO3 := Lib.hid (own_base5 (b := w.heap.size) how HG2.out.size)
  obtain ⟨a3, c3, rfl, -⟩ := own_slice how
  have HM3 := Lib.hid h1
  have HG3 := Lib.hid (HG2.out.trans hg1)
  have HP2 := Lib.hid (own_later HO2.out hg1 hplt)
  clear HO2
  have HO2 := HP2
  clear HP2
  clear hz h1 hg1 how HM2 HG2
  go_wp2_with fail
  refine (rm_nodes HM3.out res4 H4).mono ?_
  rintro x w4 ⟨⟨v4, xs4, rfl, how, hz⟩, h1, hg1⟩
  have HZ4 := Lib.hid hz
  have HO4 := Lib.hid (own_base5 (b := w.heap.size) how HG3.out.size)
  obtain ⟨a4, c4, rfl, -⟩ := own_slice how
  have HM4 := Lib.hid h1
  have HG4 := Lib.hid (HG3.out.trans hg1)
  have HP2 := Lib.hid (own_later HO2.out hg1 hplt)
  clear HO2
  have HO2 := HP2
  clear HP2
  have HP3 := Lib.hid (own_later HO3.out hg1 hplt)
  clear HO3
  have HO3 := HP3
  clear HP3
  clear hz h1 hg1 how HM3 HG3
  have HT : Hid (∀ ps r, res = Sum.inl (ps, r) → ∃ m : MV, .iface 65 (.agg #[.int .i64 z1, .slice a2 xs2.length c2, .slice a3 xs3.length c3, .slice a4 xs4.length c4]) = m.val ∧ m.kind = 4 ∧ m.parts = ps ∧ m.Reads w4) := Lib.hid fun ps r hres => by
    have hcb := HE.out.trans hres
    obtain ⟨p1, r1, q1, e1, h1, rfl⟩ := comb_cons hcb
    obtain ⟨x1, f1, rfl⟩ := as_inl e1
    obtain ⟨p2, r2, q2, e2, h2, rfl⟩ := comb_cons h1
    obtain ⟨x2, f2, rfl⟩ := as_inl e2
    obtain ⟨p3, r3, q3, e3, h3, rfl⟩ := comb_cons h2
    obtain ⟨x3, f3, rfl⟩ := as_inl e3
    obtain ⟨p4, r4, q4, e4, h4, rfl⟩ := comb_cons h3
    obtain ⟨x4, f4, rfl⟩ := as_inl e4
    obtain rfl := comb_nil h4
    obtain rfl := HZ1.out _ _ f1
    have k2 := run_ok (t := .c) (o := (rest res1)) (p := .c x2) (r := r2) (by rw [run_c, H2.out]; exact e2)
    obtain rfl := HZ2.out _ _ f2
    have k3 := run_ok (t := .c) (o := (rest res2)) (p := .c x3) (r := r3) (by rw [run_c, H3.out]; exact e3)
    obtain rfl := HZ3.out _ _ f3
    have k4 := run_ok (t := .c) (o := (rest res3)) (p := .c x4) (r := r4) (by rw [run_c, H4.out]; exact e4)
    obtain rfl := HZ4.out _ _ f4
    exact ⟨.view_ z1 xs2 (.slice a2 xs2.length c2) xs3 (.slice a3 xs3.length c3) xs4 (.slice a4 xs4.length c4), rfl, rfl, rfl, ⟨readsI_own HO2.out (ok_ints k2), readsI_own HO3.out (ok_ints k3), readsI_own HO4.out (ok_ints k4)⟩⟩
  clear HZ1 HZ2 HZ3 HZ4 H1 H2 H3 H4 HE
  go_wp2
  go_ret
  exact ⟨⟨_, _, rfl, HT.out⟩, by rw [HRR.out]; exact HM4.out, HG4.out⟩

set_option maxHeartbeats 4000000 in
set_option maxRecDepth 100000 in
theorem message_where {p : Nat} {w : World} {l : List UInt8} (h : RM p (.inl l) w) (res : K.Rd (List M.Pt)) (H : Hid (M.takeS M.takeP (M.shape 5) l = res)) :
    Calls Try.prog 20 #[rdP p, .int .u8 5] w (MsgPost p 5 w res) := by
  have hplt := h.lt
  have hmf : ∀ (fn : Fn) (first cap : Array Value) (w : World), (Instr.makeFunc fn first cap).run Try.prog w = .ok (.func fn first cap) w := fun _ _ _ _ => rfl
  obtain ⟨res1, H1⟩ : ∃ x, Hid (run M.takeI (.inl l) = x) := ⟨_, Lib.hid rfl⟩
  have hch : Ch (M.shape 5) (.inl l) [M.as .n res1] (rest (M.as .n res1)) := Ch.cons (x := M.as .n res1) (by rw [run_n, H1.out]) (Ch.nil _)
  have hcr := ch_run hch
  rw [rest_as] at hcr
  have HE : Hid (comb [M.as .n res1] (.inl l) = res) := Lib.hid (by rw [← hcr.1]; exact H.out)
  have HRR : Hid (rest res = rest res1) := Lib.hid (by rw [← HE.out]; exact hcr.2)
  have HM0 := Lib.hid h
  have HG0 : Hid (w.grownBy w (some p)) := Lib.hid (grown_refl _ _)
  clear h H hch hcr
  go_enter Try.func20, Try.ntmps20
  go_wp2_with fail
  refine (rm_number HM0.out res1 H1).mono ?_
  rintro x w1 ⟨⟨z1, rfl, hz⟩, h1, hg1⟩
  have HZ1 := Lib.hid hz
  have HM1 := Lib.hid h1
  have HG1 := Lib.hid (HG0.out.trans hg1)
  clear hz h1 hg1 HM0 HG0
  have HT : Hid (∀ ps r, res = Sum.inl (ps, r) → ∃ m : MV, .iface 67 (.agg #[.int .i64 z1]) = m.val ∧ m.kind = 5 ∧ m.parts = ps ∧ m.Reads w1) := Lib.hid fun ps r hres => by
    have hcb := HE.out.trans hres
    obtain ⟨p1, r1, q1, e1, h1, rfl⟩ := comb_cons hcb
    obtain ⟨x1, f1, rfl⟩ := as_inl e1
    obtain rfl := comb_nil h1
    obtain rfl := HZ1.out _ _ f1
    exact ⟨.where_ z1, rfl, rfl, rfl, trivial⟩
  clear HZ1 H1 HE
  go_wp2
  go_ret
  exact ⟨⟨_, _, rfl, HT.out⟩, by rw [HRR.out]; exact HM1.out, HG1.out⟩

set_option maxHeartbeats 4000000 in
set_option maxRecDepth 100000 in
theorem message_have {p : Nat} {w : World} {l : List UInt8} (h : RM p (.inl l) w) (res : K.Rd (List M.Pt)) (H : Hid (M.takeS M.takeP (M.shape 6) l = res)) :
    Calls Try.prog 20 #[rdP p, .int .u8 6] w (MsgPost p 6 w res) := by
  have hplt := h.lt
  have hmf : ∀ (fn : Fn) (first cap : Array Value) (w : World), (Instr.makeFunc fn first cap).run Try.prog w = .ok (.func fn first cap) w := fun _ _ _ _ => rfl
  obtain ⟨res1, H1⟩ : ∃ x, Hid (run M.takeI (.inl l) = x) := ⟨_, Lib.hid rfl⟩
  obtain ⟨res2, H2⟩ : ∃ x, Hid (run M.takeI (rest res1) = x) := ⟨_, Lib.hid rfl⟩
  obtain ⟨res3, H3⟩ : ∃ x, Hid (run M.takeI (rest res2) = x) := ⟨_, Lib.hid rfl⟩
  obtain ⟨res4, H4⟩ : ∃ x, Hid (run (M.takeC 30 M.takeMk) (rest res3) = x) := ⟨_, Lib.hid rfl⟩
  have hch : Ch (M.shape 6) (.inl l) [M.as .n res1, M.as .n res2, M.as .n res3, M.as .m res4] (rest (M.as .m res4)) := Ch.cons (x := M.as .n res1) (by rw [run_n, H1.out]) (Ch.cons (x := M.as .n res2) (by rw [run_n, rest_as, H2.out]) (Ch.cons (x := M.as .n res3) (by rw [run_n, rest_as, H3.out]) (Ch.cons (x := M.as .m res4) (by rw [run_m, rest_as, H4.out]) (Ch.nil _))))
  have hcr := ch_run hch
  rw [rest_as] at hcr
  have HE : Hid (comb [M.as .n res1, M.as .n res2, M.as .n res3, M.as .m res4] (.inl l) = res) := Lib.hid (by rw [← hcr.1]; exact H.out)
  have HRR : Hid (rest res = rest res4) := Lib.hid (by rw [← HE.out]; exact hcr.2)
  have HM0 := Lib.hid h
  have HG0 : Hid (w.grownBy w (some p)) := Lib.hid (grown_refl _ _)
  clear h H hch hcr
  go_enter Try.func20, Try.ntmps20
  go_wp2_with fail
  refine (rm_number HM0.out res1 H1).mono ?_
  rintro x w1 ⟨⟨z1, rfl, hz⟩, h1, hg1⟩
  have HZ1 := Lib.hid hz
  have HM1 := Lib.hid h1
  have HG1 := Lib.hid (HG0.out.trans hg1)
  clear hz h1 hg1 HM0 HG0
  go_wp2_with fail
  refine (rm_number HM1.out res2 H2).mono ?_
  rintro x w2 ⟨⟨z2, rfl, hz⟩, h1, hg1⟩
  have HZ2 := Lib.hid hz
  have HM2 := Lib.hid h1
  have HG2 := Lib.hid (HG1.out.trans hg1)
  clear hz h1 hg1 HM1 HG1
  go_wp2_with fail
  refine (rm_number HM2.out res3 H3).mono ?_
  rintro x w3 ⟨⟨z3, rfl, hz⟩, h1, hg1⟩
  have HZ3 := Lib.hid hz
  have HM3 := Lib.hid h1
  have HG3 := Lib.hid (HG2.out.trans hg1)
  clear hz h1 hg1 HM2 HG2
  go_wp2_with fail
  refine (rm_list_mark 30 HM3.out res4 H4 (by omega)).mono ?_
  rintro x w4 ⟨⟨v4, xs4, rfl, how, hz⟩, h1, hg1⟩
  have HZ4 := Lib.hid hz
  have HO4 := Lib.hid (own_base5 (b := w.heap.size) how HG3.out.size)
  obtain ⟨a4, c4, rfl, -⟩ := own_slice how
  have HM4 := Lib.hid h1
  have HG4 := Lib.hid (HG3.out.trans hg1)
  clear hz h1 hg1 how HM3 HG3
  have HT : Hid (∀ ps r, res = Sum.inl (ps, r) → ∃ m : MV, .iface 69 (.agg #[.int .i64 z1, .int .i64 z2, .int .i64 z3, .slice a4 xs4.length c4]) = m.val ∧ m.kind = 6 ∧ m.parts = ps ∧ m.Reads w4) := Lib.hid fun ps r hres => by
    have hcb := HE.out.trans hres
    obtain ⟨p1, r1, q1, e1, h1, rfl⟩ := comb_cons hcb
    obtain ⟨x1, f1, rfl⟩ := as_inl e1
    obtain ⟨p2, r2, q2, e2, h2, rfl⟩ := comb_cons h1
    obtain ⟨x2, f2, rfl⟩ := as_inl e2
    obtain ⟨p3, r3, q3, e3, h3, rfl⟩ := comb_cons h2
    obtain ⟨x3, f3, rfl⟩ := as_inl e3
    obtain ⟨p4, r4, q4, e4, h4, rfl⟩ := comb_cons h3
    obtain ⟨x4, f4, rfl⟩ := as_inl e4
    obtain rfl := comb_nil h4
    obtain rfl := HZ1.out _ _ f1
    obtain rfl := HZ2.out _ _ f2
    obtain rfl := HZ3.out _ _ f3
    obtain rfl := HZ4.out _ _ f4
    exact ⟨.have_ z1 z2 z3 xs4 (.slice a4 xs4.length c4), rfl, rfl, rfl, readsM_own HO4.out⟩
  clear HZ1 HZ2 HZ3 HZ4 H1 H2 H3 H4 HE
  go_wp2
  go_ret
  exact ⟨⟨_, _, rfl, HT.out⟩, by rw [HRR.out]; exact HM4.out, HG4.out⟩

set_option maxHeartbeats 4000000 in
set_option maxRecDepth 100000 in
theorem message_logs {p : Nat} {w : World} {l : List UInt8} (h : RM p (.inl l) w) (res : K.Rd (List M.Pt)) (H : Hid (M.takeS M.takeP (M.shape 7) l = res)) :
    Calls Try.prog 20 #[rdP p, .int .u8 7] w (MsgPost p 7 w res) := by
  have hplt := h.lt
  have hmf : ∀ (fn : Fn) (first cap : Array Value) (w : World), (Instr.makeFunc fn first cap).run Try.prog w = .ok (.func fn first cap) w := fun _ _ _ _ => rfl
  obtain ⟨res1, H1⟩ : ∃ x, Hid (run M.takeI (.inl l) = x) := ⟨_, Lib.hid rfl⟩
  obtain ⟨res2, H2⟩ : ∃ x, Hid (run M.takeI (rest res1) = x) := ⟨_, Lib.hid rfl⟩
  obtain ⟨res3, H3⟩ : ∃ x, Hid (run M.takeI (rest res2) = x) := ⟨_, Lib.hid rfl⟩
  obtain ⟨res4, H4⟩ : ∃ x, Hid (run M.takeI (rest res3) = x) := ⟨_, Lib.hid rfl⟩
  obtain ⟨res5, H5⟩ : ∃ x, Hid (run M.takeI (rest res4) = x) := ⟨_, Lib.hid rfl⟩
  obtain ⟨res6, H6⟩ : ∃ x, Hid (run M.takeI (rest res5) = x) := ⟨_, Lib.hid rfl⟩
  obtain ⟨res7, H7⟩ : ∃ x, Hid (run (M.takeC 8 R.takeEn) (rest res6) = x) := ⟨_, Lib.hid rfl⟩
  have hch : Ch (M.shape 7) (.inl l) [M.as .n res1, M.as .n res2, M.as .n res3, M.as .n res4, M.as .n res5, M.as .n res6, M.as .e res7] (rest (M.as .e res7)) := Ch.cons (x := M.as .n res1) (by rw [run_n, H1.out]) (Ch.cons (x := M.as .n res2) (by rw [run_n, rest_as, H2.out]) (Ch.cons (x := M.as .n res3) (by rw [run_n, rest_as, H3.out]) (Ch.cons (x := M.as .n res4) (by rw [run_n, rest_as, H4.out]) (Ch.cons (x := M.as .n res5) (by rw [run_n, rest_as, H5.out]) (Ch.cons (x := M.as .n res6) (by rw [run_n, rest_as, H6.out]) (Ch.cons (x := M.as .e res7) (by rw [run_e, rest_as, H7.out]) (Ch.nil _)))))))
  have hcr := ch_run hch
  rw [rest_as] at hcr
  have HE : Hid (comb [M.as .n res1, M.as .n res2, M.as .n res3, M.as .n res4, M.as .n res5, M.as .n res6, M.as .e res7] (.inl l) = res) := Lib.hid (by rw [← hcr.1]; exact H.out)
  have HRR : Hid (rest res = rest res7) := Lib.hid (by rw [← HE.out]; exact hcr.2)
  have HM0 := Lib.hid h
  have HG0 : Hid (w.grownBy w (some p)) := Lib.hid (grown_refl _ _)
  clear h H hch hcr
  go_enter Try.func20, Try.ntmps20
  go_wp2_with fail
  refine (rm_number HM0.out res1 H1).mono ?_
  rintro x w1 ⟨⟨z1, rfl, hz⟩, h1, hg1⟩
  have HZ1 := Lib.hid hz
  have HM1 := Lib.hid h1
  have HG1 := Lib.hid (HG0.out.trans hg1)
  clear hz h1 hg1 HM0 HG0
  go_wp2_with fail
  refine (rm_number HM1.out res2 H2).mono ?_
  rintro x w2 ⟨⟨z2, rfl, hz⟩, h1, hg1⟩
  have HZ2 := Lib.hid hz
  have HM2 := Lib.hid h1
  have HG2 := Lib.hid (HG1.out.trans hg1)
  clear hz h1 hg1 HM1 HG1
  go_wp2_with fail
  refine (rm_number HM2.out res3 H3).mono ?_
  rintro x w3 ⟨⟨z3, rfl, hz⟩, h1, hg1⟩
  have HZ3 := Lib.hid hz
  have HM3 := Lib.hid h1
  have HG3 := Lib.hid (HG2.out.trans hg1)
  clear hz h1 hg1 HM2 HG2
  go_wp2_with fail
  refine (rm_number HM3.out res4 H4).mono ?_
  rintro x w4 ⟨⟨z4, rfl, hz⟩, h1, hg1⟩
  have HZ4 := Lib.hid hz
  have HM4 := Lib.hid h1
  have HG4 := Lib.hid (HG3.out.trans hg1)
  clear hz h1 hg1 HM3 HG3
  go_wp2_with fail
  refine (rm_number HM4.out res5 H5).mono ?_
  rintro x w5 ⟨⟨z5, rfl, hz⟩, h1, hg1⟩
  have HZ5 := Lib.hid hz
  have HM5 := Lib.hid h1
  have HG5 := Lib.hid (HG4.out.trans hg1)
  clear hz h1 hg1 HM4 HG4
  go_wp2_with fail
  refine (rm_number HM5.out res6 H6).mono ?_
  rintro x w6 ⟨⟨z6, rfl, hz⟩, h1, hg1⟩
  have HZ6 := Lib.hid hz
  have HM6 := Lib.hid h1
  have HG6 := Lib.hid (HG5.out.trans hg1)
  clear hz h1 hg1 HM5 HG5
  go_wp2_with fail
  refine (rm_list_entry 8 HM6.out res7 H7 (by omega)).mono ?_
  rintro x w7 ⟨⟨v7, xs7, rfl, how, hoe, hz⟩, h1, hg1⟩
  have HZ7 := Lib.hid hz
  have HO7 := Lib.hid (own_base5 (b := w.heap.size) how HG6.out.size)
  have HQ7 : Hid (∀ e ∈ xs7, w7.ownsRow w.heap.size 57 2 e.2 e.1.b.events.length (evCells e.1.b.events)) := Lib.hid fun e he => own_base5 (hoe e he) HG6.out.size
  obtain ⟨a7, c7, rfl, -⟩ := own_slice how
  have HM7 := Lib.hid h1
  have HG7 := Lib.hid (HG6.out.trans hg1)
  clear hz h1 hg1 how hoe HM6 HG6
  have HT : Hid (∀ ps r, res = Sum.inl (ps, r) → ∃ m : MV, .iface 71 (.agg #[.int .i64 z1, .int .i64 z2, .int .i64 z3, .int .i64 z4, .int .i64 z5, .int .i64 z6, .slice a7 xs7.length c7]) = m.val ∧ m.kind = 7 ∧ m.parts = ps ∧ m.Reads w7) := Lib.hid fun ps r hres => by
    have hcb := HE.out.trans hres
    obtain ⟨p1, r1, q1, e1, h1, rfl⟩ := comb_cons hcb
    obtain ⟨x1, f1, rfl⟩ := as_inl e1
    obtain ⟨p2, r2, q2, e2, h2, rfl⟩ := comb_cons h1
    obtain ⟨x2, f2, rfl⟩ := as_inl e2
    obtain ⟨p3, r3, q3, e3, h3, rfl⟩ := comb_cons h2
    obtain ⟨x3, f3, rfl⟩ := as_inl e3
    obtain ⟨p4, r4, q4, e4, h4, rfl⟩ := comb_cons h3
    obtain ⟨x4, f4, rfl⟩ := as_inl e4
    obtain ⟨p5, r5, q5, e5, h5, rfl⟩ := comb_cons h4
    obtain ⟨x5, f5, rfl⟩ := as_inl e5
    obtain ⟨p6, r6, q6, e6, h6, rfl⟩ := comb_cons h5
    obtain ⟨x6, f6, rfl⟩ := as_inl e6
    obtain ⟨p7, r7, q7, e7, h7, rfl⟩ := comb_cons h6
    obtain ⟨x7, f7, rfl⟩ := as_inl e7
    obtain rfl := comb_nil h7
    obtain rfl := HZ1.out _ _ f1
    obtain rfl := HZ2.out _ _ f2
    obtain rfl := HZ3.out _ _ f3
    obtain rfl := HZ4.out _ _ f4
    obtain rfl := HZ5.out _ _ f5
    obtain rfl := HZ6.out _ _ f6
    have k7 := run_ok (t := .e) (o := (rest res6)) (p := .e x7) (r := r7) (by rw [run_e, H7.out]; exact e7)
    obtain rfl := HZ7.out _ _ f7
    exact ⟨.logs_ z1 z2 z3 z4 z5 z6 xs7 (.slice a7 xs7.length c7), rfl, rfl, rfl, ⟨readsR_own HO7.out (fun e he => ⟨readsE_own (HQ7.out e he), right_i64 (ok_ens k7 e.1 (List.mem_map_of_mem he))⟩), fun e he => right_small (ok_ens k7 e.1 (List.mem_map_of_mem he))⟩⟩
  clear HZ1 HZ2 HZ3 HZ4 HZ5 HZ6 HZ7 H1 H2 H3 H4 H5 H6 H7 HE
  go_wp2
  go_ret
  exact ⟨⟨_, _, rfl, HT.out⟩, by rw [HRR.out]; exact HM7.out, HG7.out⟩

set_option maxHeartbeats 4000000 in
set_option maxRecDepth 100000 in
theorem message_ack {p : Nat} {w : World} {l : List UInt8} (h : RM p (.inl l) w) (res : K.Rd (List M.Pt)) (H : Hid (M.takeS M.takeP (M.shape 8) l = res)) :
    Calls Try.prog 20 #[rdP p, .int .u8 8] w (MsgPost p 8 w res) := by
  have hplt := h.lt
  have hmf : ∀ (fn : Fn) (first cap : Array Value) (w : World), (Instr.makeFunc fn first cap).run Try.prog w = .ok (.func fn first cap) w := fun _ _ _ _ => rfl
  obtain ⟨res1, H1⟩ : ∃ x, Hid (run M.takeI (.inl l) = x) := ⟨_, Lib.hid rfl⟩
  obtain ⟨res2, H2⟩ : ∃ x, Hid (run M.takeI (rest res1) = x) := ⟨_, Lib.hid rfl⟩
  obtain ⟨res3, H3⟩ : ∃ x, Hid (run M.takeI (rest res2) = x) := ⟨_, Lib.hid rfl⟩
  have hch : Ch (M.shape 8) (.inl l) [M.as .n res1, M.as .n res2, M.as .n res3] (rest (M.as .n res3)) := Ch.cons (x := M.as .n res1) (by rw [run_n, H1.out]) (Ch.cons (x := M.as .n res2) (by rw [run_n, rest_as, H2.out]) (Ch.cons (x := M.as .n res3) (by rw [run_n, rest_as, H3.out]) (Ch.nil _)))
  have hcr := ch_run hch
  rw [rest_as] at hcr
  have HE : Hid (comb [M.as .n res1, M.as .n res2, M.as .n res3] (.inl l) = res) := Lib.hid (by rw [← hcr.1]; exact H.out)
  have HRR : Hid (rest res = rest res3) := Lib.hid (by rw [← HE.out]; exact hcr.2)
  have HM0 := Lib.hid h
  have HG0 : Hid (w.grownBy w (some p)) := Lib.hid (grown_refl _ _)
  clear h H hch hcr
  go_enter Try.func20, Try.ntmps20
  go_wp2_with fail
  refine (rm_number HM0.out res1 H1).mono ?_
  rintro x w1 ⟨⟨z1, rfl, hz⟩, h1, hg1⟩
  have HZ1 := Lib.hid hz
  have HM1 := Lib.hid h1
  have HG1 := Lib.hid (HG0.out.trans hg1)
  clear hz h1 hg1 HM0 HG0
  go_wp2_with fail
  refine (rm_number HM1.out res2 H2).mono ?_
  rintro x w2 ⟨⟨z2, rfl, hz⟩, h1, hg1⟩
  have HZ2 := Lib.hid hz
  have HM2 := Lib.hid h1
  have HG2 := Lib.hid (HG1.out.trans hg1)
  clear hz h1 hg1 HM1 HG1
  go_wp2_with fail
  refine (rm_number HM2.out res3 H3).mono ?_
  rintro x w3 ⟨⟨z3, rfl, hz⟩, h1, hg1⟩
  have HZ3 := Lib.hid hz
  have HM3 := Lib.hid h1
  have HG3 := Lib.hid (HG2.out.trans hg1)
  clear hz h1 hg1 HM2 HG2
  have HT : Hid (∀ ps r, res = Sum.inl (ps, r) → ∃ m : MV, .iface 53 (.agg #[.int .i64 z1, .int .i64 z2, .int .i64 z3]) = m.val ∧ m.kind = 8 ∧ m.parts = ps ∧ m.Reads w3) := Lib.hid fun ps r hres => by
    have hcb := HE.out.trans hres
    obtain ⟨p1, r1, q1, e1, h1, rfl⟩ := comb_cons hcb
    obtain ⟨x1, f1, rfl⟩ := as_inl e1
    obtain ⟨p2, r2, q2, e2, h2, rfl⟩ := comb_cons h1
    obtain ⟨x2, f2, rfl⟩ := as_inl e2
    obtain ⟨p3, r3, q3, e3, h3, rfl⟩ := comb_cons h2
    obtain ⟨x3, f3, rfl⟩ := as_inl e3
    obtain rfl := comb_nil h3
    obtain rfl := HZ1.out _ _ f1
    obtain rfl := HZ2.out _ _ f2
    obtain rfl := HZ3.out _ _ f3
    exact ⟨.ack_ z1 z2 z3, rfl, rfl, rfl, trivial⟩
  clear HZ1 HZ2 HZ3 H1 H2 H3 HE
  go_wp2
  go_ret
  exact ⟨⟨_, _, rfl, HT.out⟩, by rw [HRR.out]; exact HM3.out, HG3.out⟩

set_option maxHeartbeats 4000000 in
set_option maxRecDepth 100000 in
theorem message_ask {p : Nat} {w : World} {l : List UInt8} (h : RM p (.inl l) w) (res : K.Rd (List M.Pt)) (H : Hid (M.takeS M.takeP (M.shape 9) l = res)) :
    Calls Try.prog 20 #[rdP p, .int .u8 9] w (MsgPost p 9 w res) := by
  have hplt := h.lt
  have hmf : ∀ (fn : Fn) (first cap : Array Value) (w : World), (Instr.makeFunc fn first cap).run Try.prog w = .ok (.func fn first cap) w := fun _ _ _ _ => rfl
  obtain ⟨res1, H1⟩ : ∃ x, Hid (run M.takeI (.inl l) = x) := ⟨_, Lib.hid rfl⟩
  obtain ⟨res2, H2⟩ : ∃ x, Hid (run M.takeI (rest res1) = x) := ⟨_, Lib.hid rfl⟩
  obtain ⟨res3, H3⟩ : ∃ x, Hid (run M.takeI (rest res2) = x) := ⟨_, Lib.hid rfl⟩
  obtain ⟨res4, H4⟩ : ∃ x, Hid (run M.takeI (rest res3) = x) := ⟨_, Lib.hid rfl⟩
  have hch : Ch (M.shape 9) (.inl l) [M.as .n res1, M.as .n res2, M.as .n res3, M.as .n res4] (rest (M.as .n res4)) := Ch.cons (x := M.as .n res1) (by rw [run_n, H1.out]) (Ch.cons (x := M.as .n res2) (by rw [run_n, rest_as, H2.out]) (Ch.cons (x := M.as .n res3) (by rw [run_n, rest_as, H3.out]) (Ch.cons (x := M.as .n res4) (by rw [run_n, rest_as, H4.out]) (Ch.nil _))))
  have hcr := ch_run hch
  rw [rest_as] at hcr
  have HE : Hid (comb [M.as .n res1, M.as .n res2, M.as .n res3, M.as .n res4] (.inl l) = res) := Lib.hid (by rw [← hcr.1]; exact H.out)
  have HRR : Hid (rest res = rest res4) := Lib.hid (by rw [← HE.out]; exact hcr.2)
  have HM0 := Lib.hid h
  have HG0 : Hid (w.grownBy w (some p)) := Lib.hid (grown_refl _ _)
  clear h H hch hcr
  go_enter Try.func20, Try.ntmps20
  go_wp2_with fail
  refine (rm_number HM0.out res1 H1).mono ?_
  rintro x w1 ⟨⟨z1, rfl, hz⟩, h1, hg1⟩
  have HZ1 := Lib.hid hz
  have HM1 := Lib.hid h1
  have HG1 := Lib.hid (HG0.out.trans hg1)
  clear hz h1 hg1 HM0 HG0
  go_wp2_with fail
  refine (rm_number HM1.out res2 H2).mono ?_
  rintro x w2 ⟨⟨z2, rfl, hz⟩, h1, hg1⟩
  have HZ2 := Lib.hid hz
  have HM2 := Lib.hid h1
  have HG2 := Lib.hid (HG1.out.trans hg1)
  clear hz h1 hg1 HM1 HG1
  go_wp2_with fail
  refine (rm_number HM2.out res3 H3).mono ?_
  rintro x w3 ⟨⟨z3, rfl, hz⟩, h1, hg1⟩
  have HZ3 := Lib.hid hz
  have HM3 := Lib.hid h1
  have HG3 := Lib.hid (HG2.out.trans hg1)
  clear hz h1 hg1 HM2 HG2
  go_wp2_with fail
  refine (rm_number HM3.out res4 H4).mono ?_
  rintro x w4 ⟨⟨z4, rfl, hz⟩, h1, hg1⟩
  have HZ4 := Lib.hid hz
  have HM4 := Lib.hid h1
  have HG4 := Lib.hid (HG3.out.trans hg1)
  clear hz h1 hg1 HM3 HG3
  have HT : Hid (∀ ps r, res = Sum.inl (ps, r) → ∃ m : MV, .iface 73 (.agg #[.int .i64 z1, .int .i64 z2, .int .i64 z3, .int .i64 z4]) = m.val ∧ m.kind = 9 ∧ m.parts = ps ∧ m.Reads w4) := Lib.hid fun ps r hres => by
    have hcb := HE.out.trans hres
    obtain ⟨p1, r1, q1, e1, h1, rfl⟩ := comb_cons hcb
    obtain ⟨x1, f1, rfl⟩ := as_inl e1
    obtain ⟨p2, r2, q2, e2, h2, rfl⟩ := comb_cons h1
    obtain ⟨x2, f2, rfl⟩ := as_inl e2
    obtain ⟨p3, r3, q3, e3, h3, rfl⟩ := comb_cons h2
    obtain ⟨x3, f3, rfl⟩ := as_inl e3
    obtain ⟨p4, r4, q4, e4, h4, rfl⟩ := comb_cons h3
    obtain ⟨x4, f4, rfl⟩ := as_inl e4
    obtain rfl := comb_nil h4
    obtain rfl := HZ1.out _ _ f1
    obtain rfl := HZ2.out _ _ f2
    obtain rfl := HZ3.out _ _ f3
    obtain rfl := HZ4.out _ _ f4
    exact ⟨.ask_ z1 z2 z3 z4, rfl, rfl, rfl, trivial⟩
  clear HZ1 HZ2 HZ3 HZ4 H1 H2 H3 H4 HE
  go_wp2
  go_ret
  exact ⟨⟨_, _, rfl, HT.out⟩, by rw [HRR.out]; exact HM4.out, HG4.out⟩

set_option maxHeartbeats 4000000 in
set_option maxRecDepth 100000 in
theorem message_told {p : Nat} {w : World} {l : List UInt8} (h : RM p (.inl l) w) (res : K.Rd (List M.Pt)) (H : Hid (M.takeS M.takeP (M.shape 10) l = res)) :
    Calls Try.prog 20 #[rdP p, .int .u8 10] w (MsgPost p 10 w res) := by
  have hplt := h.lt
  have hmf : ∀ (fn : Fn) (first cap : Array Value) (w : World), (Instr.makeFunc fn first cap).run Try.prog w = .ok (.func fn first cap) w := fun _ _ _ _ => rfl
  obtain ⟨res1, H1⟩ : ∃ x, Hid (run M.takeI (.inl l) = x) := ⟨_, Lib.hid rfl⟩
  obtain ⟨res2, H2⟩ : ∃ x, Hid (run M.takeI (rest res1) = x) := ⟨_, Lib.hid rfl⟩
  obtain ⟨res3, H3⟩ : ∃ x, Hid (run M.takeI (rest res2) = x) := ⟨_, Lib.hid rfl⟩
  obtain ⟨res4, H4⟩ : ∃ x, Hid (run M.takeI (rest res3) = x) := ⟨_, Lib.hid rfl⟩
  have hch : Ch (M.shape 10) (.inl l) [M.as .n res1, M.as .n res2, M.as .n res3, M.as .n res4] (rest (M.as .n res4)) := Ch.cons (x := M.as .n res1) (by rw [run_n, H1.out]) (Ch.cons (x := M.as .n res2) (by rw [run_n, rest_as, H2.out]) (Ch.cons (x := M.as .n res3) (by rw [run_n, rest_as, H3.out]) (Ch.cons (x := M.as .n res4) (by rw [run_n, rest_as, H4.out]) (Ch.nil _))))
  have hcr := ch_run hch
  rw [rest_as] at hcr
  have HE : Hid (comb [M.as .n res1, M.as .n res2, M.as .n res3, M.as .n res4] (.inl l) = res) := Lib.hid (by rw [← hcr.1]; exact H.out)
  have HRR : Hid (rest res = rest res4) := Lib.hid (by rw [← HE.out]; exact hcr.2)
  have HM0 := Lib.hid h
  have HG0 : Hid (w.grownBy w (some p)) := Lib.hid (grown_refl _ _)
  clear h H hch hcr
  go_enter Try.func20, Try.ntmps20
  go_wp2_with fail
  refine (rm_number HM0.out res1 H1).mono ?_
  rintro x w1 ⟨⟨z1, rfl, hz⟩, h1, hg1⟩
  have HZ1 := Lib.hid hz
  have HM1 := Lib.hid h1
  have HG1 := Lib.hid (HG0.out.trans hg1)
  clear hz h1 hg1 HM0 HG0
  go_wp2_with fail
  refine (rm_number HM1.out res2 H2).mono ?_
  rintro x w2 ⟨⟨z2, rfl, hz⟩, h1, hg1⟩
  have HZ2 := Lib.hid hz
  have HM2 := Lib.hid h1
  have HG2 := Lib.hid (HG1.out.trans hg1)
  clear hz h1 hg1 HM1 HG1
  go_wp2_with fail
  refine (rm_number HM2.out res3 H3).mono ?_
  rintro x w3 ⟨⟨z3, rfl, hz⟩, h1, hg1⟩
  have HZ3 := Lib.hid hz
  have HM3 := Lib.hid h1
  have HG3 := Lib.hid (HG2.out.trans hg1)
  clear hz h1 hg1 HM2 HG2
  go_wp2_with fail
  refine (rm_number HM3.out res4 H4).mono ?_
  rintro x w4 ⟨⟨z4, rfl, hz⟩, h1, hg1⟩
  have HZ4 := Lib.hid hz
  have HM4 := Lib.hid h1
  have HG4 := Lib.hid (HG3.out.trans hg1)
  clear hz h1 hg1 HM3 HG3
  have HT : Hid (∀ ps r, res = Sum.inl (ps, r) → ∃ m : MV, .iface 75 (.agg #[.int .i64 z1, .int .i64 z2, .int .i64 z3, .int .i64 z4]) = m.val ∧ m.kind = 10 ∧ m.parts = ps ∧ m.Reads w4) := Lib.hid fun ps r hres => by
    have hcb := HE.out.trans hres
    obtain ⟨p1, r1, q1, e1, h1, rfl⟩ := comb_cons hcb
    obtain ⟨x1, f1, rfl⟩ := as_inl e1
    obtain ⟨p2, r2, q2, e2, h2, rfl⟩ := comb_cons h1
    obtain ⟨x2, f2, rfl⟩ := as_inl e2
    obtain ⟨p3, r3, q3, e3, h3, rfl⟩ := comb_cons h2
    obtain ⟨x3, f3, rfl⟩ := as_inl e3
    obtain ⟨p4, r4, q4, e4, h4, rfl⟩ := comb_cons h3
    obtain ⟨x4, f4, rfl⟩ := as_inl e4
    obtain rfl := comb_nil h4
    obtain rfl := HZ1.out _ _ f1
    obtain rfl := HZ2.out _ _ f2
    obtain rfl := HZ3.out _ _ f3
    obtain rfl := HZ4.out _ _ f4
    exact ⟨.told_ z1 z2 z3 z4, rfl, rfl, rfl, trivial⟩
  clear HZ1 HZ2 HZ3 HZ4 H1 H2 H3 H4 HE
  go_wp2
  go_ret
  exact ⟨⟨_, _, rfl, HT.out⟩, by rw [HRR.out]; exact HM4.out, HG4.out⟩

set_option maxHeartbeats 4000000 in
set_option maxRecDepth 100000 in
theorem message_append {p : Nat} {w : World} {l : List UInt8} (h : RM p (.inl l) w) (res : K.Rd (List M.Pt)) (H : Hid (M.takeS M.takeP (M.shape 11) l = res)) :
    Calls Try.prog 20 #[rdP p, .int .u8 11] w (MsgPost p 11 w res) := by
  have hplt := h.lt
  have hmf : ∀ (fn : Fn) (first cap : Array Value) (w : World), (Instr.makeFunc fn first cap).run Try.prog w = .ok (.func fn first cap) w := fun _ _ _ _ => rfl
  obtain ⟨res1, H1⟩ : ∃ x, Hid (run M.takeI (.inl l) = x) := ⟨_, Lib.hid rfl⟩
  obtain ⟨res2, H2⟩ : ∃ x, Hid (run E.takeBat (rest res1) = x) := ⟨_, Lib.hid rfl⟩
  have hch : Ch (M.shape 11) (.inl l) [M.as .n res1, M.as .b res2] (rest (M.as .b res2)) := Ch.cons (x := M.as .n res1) (by rw [run_n, H1.out]) (Ch.cons (x := M.as .b res2) (by rw [run_b, rest_as, H2.out]) (Ch.nil _))
  have hcr := ch_run hch
  rw [rest_as] at hcr
  have HE : Hid (comb [M.as .n res1, M.as .b res2] (.inl l) = res) := Lib.hid (by rw [← hcr.1]; exact H.out)
  have HRR : Hid (rest res = rest res2) := Lib.hid (by rw [← HE.out]; exact hcr.2)
  have HM0 := Lib.hid h
  have HG0 : Hid (w.grownBy w (some p)) := Lib.hid (grown_refl _ _)
  clear h H hch hcr
  go_enter Try.func20, Try.ntmps20
  go_wp2_with fail
  refine (rm_number HM0.out res1 H1).mono ?_
  rintro x w1 ⟨⟨z1, rfl, hz⟩, h1, hg1⟩
  have HZ1 := Lib.hid hz
  have HM1 := Lib.hid h1
  have HG1 := Lib.hid (HG0.out.trans hg1)
  clear hz h1 hg1 HM0 HG0
  go_wp2_with fail
  refine (rm_batch0 HM1.out res2 H2).mono ?_
  rintro x w2 ⟨⟨⟨st, ex, se, sq, evs⟩, v2, rfl, ⟨a2, n2, c2, rfl⟩, hz⟩, h1, hg1⟩
  have HZ2 := Lib.hid fun a r e => And.intro (hz a r e).1 (own_base5 (b := w.heap.size) (hz a r e).2 HG1.out.size)
  dsimp only [batV]
  have HM2 := Lib.hid h1
  have HG2 := Lib.hid (HG1.out.trans hg1)
  clear hz h1 hg1 HM1 HG1
  have HT : Hid (∀ ps r, res = Sum.inl (ps, r) → ∃ m : MV, .iface 77 (.agg #[.int .i64 z1, .string (B st), .int .i64 ex, .int .i64 se, .int .i64 sq, .slice a2 n2 c2]) = m.val ∧ m.kind = 11 ∧ m.parts = ps ∧ m.Reads w2) := Lib.hid fun ps r hres => by
    have hcb := HE.out.trans hres
    obtain ⟨p1, r1, q1, e1, h1, rfl⟩ := comb_cons hcb
    obtain ⟨x1, f1, rfl⟩ := as_inl e1
    obtain ⟨p2, r2, q2, e2, h2, rfl⟩ := comb_cons h1
    obtain ⟨x2, f2, rfl⟩ := as_inl e2
    obtain rfl := comb_nil h2
    obtain rfl := HZ1.out _ _ f1
    have k2 := run_ok (t := .b) (o := (rest res1)) (p := .b x2) (r := r2) (by rw [run_b, H2.out]; exact e2)
    obtain ⟨g2, o2⟩ := HZ2.out _ _ f2
    subst g2
    exact ⟨.append_ z1 ⟨st, ex, se, sq, evs⟩ (.slice a2 n2 c2), rfl, rfl, rfl, ⟨readsE_own o2, fits_small (ok_bat k2)⟩⟩
  clear HZ1 HZ2 H1 H2 HE
  go_wp2
  go_ret
  exact ⟨⟨_, _, rfl, HT.out⟩, by rw [HRR.out]; exact HM2.out, HG2.out⟩

set_option maxHeartbeats 4000000 in
set_option maxRecDepth 100000 in
theorem message_read {p : Nat} {w : World} {l : List UInt8} (h : RM p (.inl l) w) (res : K.Rd (List M.Pt)) (H : Hid (M.takeS M.takeP (M.shape 12) l = res)) :
    Calls Try.prog 20 #[rdP p, .int .u8 12] w (MsgPost p 12 w res) := by
  have hplt := h.lt
  have hmf : ∀ (fn : Fn) (first cap : Array Value) (w : World), (Instr.makeFunc fn first cap).run Try.prog w = .ok (.func fn first cap) w := fun _ _ _ _ => rfl
  obtain ⟨res1, H1⟩ : ∃ x, Hid (run M.takeI (.inl l) = x) := ⟨_, Lib.hid rfl⟩
  obtain ⟨res2, H2⟩ : ∃ x, Hid (run (fun l => N.takeT l ((200 : Nat) : Int)) (rest res1) = x) := ⟨_, Lib.hid rfl⟩
  obtain ⟨res3, H3⟩ : ∃ x, Hid (run M.takeI (rest res2) = x) := ⟨_, Lib.hid rfl⟩
  have hch : Ch (M.shape 12) (.inl l) [M.as .n res1, M.as .s res2, M.as .n res3] (rest (M.as .n res3)) := Ch.cons (x := M.as .n res1) (by rw [run_n, H1.out]) (Ch.cons (x := M.as .s res2) (by rw [run_s, rest_as, H2.out]) (Ch.cons (x := M.as .n res3) (by rw [run_n, rest_as, H3.out]) (Ch.nil _)))
  have hcr := ch_run hch
  rw [rest_as] at hcr
  have HE : Hid (comb [M.as .n res1, M.as .s res2, M.as .n res3] (.inl l) = res) := Lib.hid (by rw [← hcr.1]; exact H.out)
  have HRR : Hid (rest res = rest res3) := Lib.hid (by rw [← HE.out]; exact hcr.2)
  have HM0 := Lib.hid h
  have HG0 : Hid (w.grownBy w (some p)) := Lib.hid (grown_refl _ _)
  clear h H hch hcr
  go_enter Try.func20, Try.ntmps20
  go_wp2_with fail
  refine (rm_number HM0.out res1 H1).mono ?_
  rintro x w1 ⟨⟨z1, rfl, hz⟩, h1, hg1⟩
  have HZ1 := Lib.hid hz
  have HM1 := Lib.hid h1
  have HG1 := Lib.hid (HG0.out.trans hg1)
  clear hz h1 hg1 HM0 HG0
  go_wp2_with fail
  refine (rm_text HM1.out res2 H2).mono ?_
  rintro x w2 ⟨⟨z2, rfl, hz⟩, h1, hg1⟩
  have HZ2 := Lib.hid hz
  have HM2 := Lib.hid h1
  have HG2 := Lib.hid (HG1.out.trans hg1)
  clear hz h1 hg1 HM1 HG1
  go_wp2_with fail
  refine (rm_number HM2.out res3 H3).mono ?_
  rintro x w3 ⟨⟨z3, rfl, hz⟩, h1, hg1⟩
  have HZ3 := Lib.hid hz
  have HM3 := Lib.hid h1
  have HG3 := Lib.hid (HG2.out.trans hg1)
  clear hz h1 hg1 HM2 HG2
  have HT : Hid (∀ ps r, res = Sum.inl (ps, r) → ∃ m : MV, .iface 79 (.agg #[.int .i64 z1, .string (B z2), .int .i64 z3]) = m.val ∧ m.kind = 12 ∧ m.parts = ps ∧ m.Reads w3) := Lib.hid fun ps r hres => by
    have hcb := HE.out.trans hres
    obtain ⟨p1, r1, q1, e1, h1, rfl⟩ := comb_cons hcb
    obtain ⟨x1, f1, rfl⟩ := as_inl e1
    obtain ⟨p2, r2, q2, e2, h2, rfl⟩ := comb_cons h1
    obtain ⟨x2, f2, rfl⟩ := as_inl e2
    obtain ⟨p3, r3, q3, e3, h3, rfl⟩ := comb_cons h2
    obtain ⟨x3, f3, rfl⟩ := as_inl e3
    obtain rfl := comb_nil h3
    obtain rfl := HZ1.out _ _ f1
    have k2 := run_ok (t := .s) (o := (rest res1)) (p := .s x2) (r := r2) (by rw [run_s, H2.out]; exact e2)
    obtain rfl := HZ2.out _ _ f2
    obtain rfl := HZ3.out _ _ f3
    exact ⟨.read_ z1 z3 z2, rfl, rfl, rfl, (show z2.length ≤ 9223372036854775807 by have := ok_txt k2; omega)⟩
  clear HZ1 HZ2 HZ3 H1 H2 H3 HE
  go_wp2
  go_ret
  exact ⟨⟨_, _, rfl, HT.out⟩, by rw [HRR.out]; exact HM3.out, HG3.out⟩

set_option maxHeartbeats 4000000 in
set_option maxRecDepth 100000 in
theorem message_reply {p : Nat} {w : World} {l : List UInt8} (h : RM p (.inl l) w) (res : K.Rd (List M.Pt)) (H : Hid (M.takeS M.takeP (M.shape 13) l = res)) :
    Calls Try.prog 20 #[rdP p, .int .u8 13] w (MsgPost p 13 w res) := by
  have hplt := h.lt
  have hmf : ∀ (fn : Fn) (first cap : Array Value) (w : World), (Instr.makeFunc fn first cap).run Try.prog w = .ok (.func fn first cap) w := fun _ _ _ _ => rfl
  obtain ⟨res1, H1⟩ : ∃ x, Hid (run M.takeI (.inl l) = x) := ⟨_, Lib.hid rfl⟩
  obtain ⟨res2, H2⟩ : ∃ x, Hid (run M.takeI (rest res1) = x) := ⟨_, Lib.hid rfl⟩
  obtain ⟨res3, H3⟩ : ∃ x, Hid (run M.takeI (rest res2) = x) := ⟨_, Lib.hid rfl⟩
  obtain ⟨res4, H4⟩ : ∃ x, Hid (run M.takeI (rest res3) = x) := ⟨_, Lib.hid rfl⟩
  obtain ⟨res5, H5⟩ : ∃ x, Hid (run M.takeI (rest res4) = x) := ⟨_, Lib.hid rfl⟩
  obtain ⟨res6, H6⟩ : ∃ x, Hid (run M.takeI (rest res5) = x) := ⟨_, Lib.hid rfl⟩
  have hch : Ch (M.shape 13) (.inl l) [M.as .n res1, M.as .n res2, M.as .n res3, M.as .n res4, M.as .n res5, M.as .n res6] (rest (M.as .n res6)) := Ch.cons (x := M.as .n res1) (by rw [run_n, H1.out]) (Ch.cons (x := M.as .n res2) (by rw [run_n, rest_as, H2.out]) (Ch.cons (x := M.as .n res3) (by rw [run_n, rest_as, H3.out]) (Ch.cons (x := M.as .n res4) (by rw [run_n, rest_as, H4.out]) (Ch.cons (x := M.as .n res5) (by rw [run_n, rest_as, H5.out]) (Ch.cons (x := M.as .n res6) (by rw [run_n, rest_as, H6.out]) (Ch.nil _))))))
  have hcr := ch_run hch
  rw [rest_as] at hcr
  have HE : Hid (comb [M.as .n res1, M.as .n res2, M.as .n res3, M.as .n res4, M.as .n res5, M.as .n res6] (.inl l) = res) := Lib.hid (by rw [← hcr.1]; exact H.out)
  have HRR : Hid (rest res = rest res6) := Lib.hid (by rw [← HE.out]; exact hcr.2)
  have HM0 := Lib.hid h
  have HG0 : Hid (w.grownBy w (some p)) := Lib.hid (grown_refl _ _)
  clear h H hch hcr
  go_enter Try.func20, Try.ntmps20
  go_wp2_with fail
  refine (rm_number HM0.out res1 H1).mono ?_
  rintro x w1 ⟨⟨z1, rfl, hz⟩, h1, hg1⟩
  have HZ1 := Lib.hid hz
  have HM1 := Lib.hid h1
  have HG1 := Lib.hid (HG0.out.trans hg1)
  clear hz h1 hg1 HM0 HG0
  go_wp2_with fail
  refine (rm_number HM1.out res2 H2).mono ?_
  rintro x w2 ⟨⟨z2, rfl, hz⟩, h1, hg1⟩
  have HZ2 := Lib.hid hz
  have HM2 := Lib.hid h1
  have HG2 := Lib.hid (HG1.out.trans hg1)
  clear hz h1 hg1 HM1 HG1
  go_wp2_with fail
  refine (rm_outcome HM2.out res3 res4 res5 res6 H3 H4 H5 H6).mono ?_
  rintro x w3 ⟨⟨z3, z4, z5, z6, rfl, hz3, hz4, hz5, hz6⟩, h1, hg1⟩
  have HZ3 := Lib.hid hz3
  have HZ4 := Lib.hid hz4
  have HZ5 := Lib.hid hz5
  have HZ6 := Lib.hid hz6
  have HM3 := Lib.hid h1
  have HG3 := Lib.hid (HG2.out.trans hg1)
  clear hz3 hz4 hz5 hz6 h1 hg1 HM2 HG2
  have HT : Hid (∀ ps r, res = Sum.inl (ps, r) → ∃ m : MV, .iface 83 (.agg #[.int .i64 z1, .int .i64 z2, .int .i64 z3, .int .i64 z4, .int .i64 z5, .int .i64 z6]) = m.val ∧ m.kind = 13 ∧ m.parts = ps ∧ m.Reads w3) := Lib.hid fun ps r hres => by
    have hcb := HE.out.trans hres
    obtain ⟨p1, r1, q1, e1, h1, rfl⟩ := comb_cons hcb
    obtain ⟨x1, f1, rfl⟩ := as_inl e1
    obtain ⟨p2, r2, q2, e2, h2, rfl⟩ := comb_cons h1
    obtain ⟨x2, f2, rfl⟩ := as_inl e2
    obtain ⟨p3, r3, q3, e3, h3, rfl⟩ := comb_cons h2
    obtain ⟨x3, f3, rfl⟩ := as_inl e3
    obtain ⟨p4, r4, q4, e4, h4, rfl⟩ := comb_cons h3
    obtain ⟨x4, f4, rfl⟩ := as_inl e4
    obtain ⟨p5, r5, q5, e5, h5, rfl⟩ := comb_cons h4
    obtain ⟨x5, f5, rfl⟩ := as_inl e5
    obtain ⟨p6, r6, q6, e6, h6, rfl⟩ := comb_cons h5
    obtain ⟨x6, f6, rfl⟩ := as_inl e6
    obtain rfl := comb_nil h6
    obtain rfl := HZ1.out _ _ f1
    obtain rfl := HZ2.out _ _ f2
    obtain rfl := HZ3.out _ _ f3
    obtain rfl := HZ4.out _ _ f4
    obtain rfl := HZ5.out _ _ f5
    obtain rfl := HZ6.out _ _ f6
    exact ⟨.reply_ z1 z2 z3 z4 z5 z6, rfl, rfl, rfl, trivial⟩
  clear HZ1 HZ2 HZ3 HZ4 HZ5 HZ6 H1 H2 H3 H4 H5 H6 HE
  go_wp2
  go_ret
  exact ⟨⟨_, _, rfl, HT.out⟩, by rw [HRR.out]; exact HM3.out, HG3.out⟩

set_option maxHeartbeats 4000000 in
set_option maxRecDepth 100000 in
theorem message_result {p : Nat} {w : World} {l : List UInt8} (h : RM p (.inl l) w) (res : K.Rd (List M.Pt)) (H : Hid (M.takeS M.takeP (M.shape 14) l = res)) :
    Calls Try.prog 20 #[rdP p, .int .u8 14] w (MsgPost p 14 w res) := by
  have hplt := h.lt
  have hmf : ∀ (fn : Fn) (first cap : Array Value) (w : World), (Instr.makeFunc fn first cap).run Try.prog w = .ok (.func fn first cap) w := fun _ _ _ _ => rfl
  obtain ⟨res1, H1⟩ : ∃ x, Hid (run M.takeI (.inl l) = x) := ⟨_, Lib.hid rfl⟩
  obtain ⟨res2, H2⟩ : ∃ x, Hid (run M.takeI (rest res1) = x) := ⟨_, Lib.hid rfl⟩
  obtain ⟨res3, H3⟩ : ∃ x, Hid (run M.takeI (rest res2) = x) := ⟨_, Lib.hid rfl⟩
  obtain ⟨res4, H4⟩ : ∃ x, Hid (run (M.takeC 16 E.takeEv) (rest res3) = x) := ⟨_, Lib.hid rfl⟩
  have hch : Ch (M.shape 14) (.inl l) [M.as .n res1, M.as .n res2, M.as .n res3, M.as .v res4] (rest (M.as .v res4)) := Ch.cons (x := M.as .n res1) (by rw [run_n, H1.out]) (Ch.cons (x := M.as .n res2) (by rw [run_n, rest_as, H2.out]) (Ch.cons (x := M.as .n res3) (by rw [run_n, rest_as, H3.out]) (Ch.cons (x := M.as .v res4) (by rw [run_v, rest_as, H4.out]) (Ch.nil _))))
  have hcr := ch_run hch
  rw [rest_as] at hcr
  have HE : Hid (comb [M.as .n res1, M.as .n res2, M.as .n res3, M.as .v res4] (.inl l) = res) := Lib.hid (by rw [← hcr.1]; exact H.out)
  have HRR : Hid (rest res = rest res4) := Lib.hid (by rw [← HE.out]; exact hcr.2)
  have HM0 := Lib.hid h
  have HG0 : Hid (w.grownBy w (some p)) := Lib.hid (grown_refl _ _)
  clear h H hch hcr
  go_enter Try.func20, Try.ntmps20
  go_wp2_with fail
  refine (rm_number HM0.out res1 H1).mono ?_
  rintro x w1 ⟨⟨z1, rfl, hz⟩, h1, hg1⟩
  have HZ1 := Lib.hid hz
  have HM1 := Lib.hid h1
  have HG1 := Lib.hid (HG0.out.trans hg1)
  clear hz h1 hg1 HM0 HG0
  go_wp2_with fail
  refine (rm_number HM1.out res2 H2).mono ?_
  rintro x w2 ⟨⟨z2, rfl, hz⟩, h1, hg1⟩
  have HZ2 := Lib.hid hz
  have HM2 := Lib.hid h1
  have HG2 := Lib.hid (HG1.out.trans hg1)
  clear hz h1 hg1 HM1 HG1
  go_wp2_with fail
  refine (rm_number HM2.out res3 H3).mono ?_
  rintro x w3 ⟨⟨z3, rfl, hz⟩, h1, hg1⟩
  have HZ3 := Lib.hid hz
  have HM3 := Lib.hid h1
  have HG3 := Lib.hid (HG2.out.trans hg1)
  clear hz h1 hg1 HM2 HG2
  go_wp2_with fail
  refine (rm_list_event 16 HM3.out res4 H4 (by omega)).mono ?_
  rintro x w4 ⟨⟨v4, xs4, rfl, how, hz⟩, h1, hg1⟩
  have HZ4 := Lib.hid hz
  have HO4 := Lib.hid (own_base5 (b := w.heap.size) how HG3.out.size)
  obtain ⟨a4, c4, rfl, -⟩ := own_slice how
  have HM4 := Lib.hid h1
  have HG4 := Lib.hid (HG3.out.trans hg1)
  clear hz h1 hg1 how HM3 HG3
  have HT : Hid (∀ ps r, res = Sum.inl (ps, r) → ∃ m : MV, .iface 85 (.agg #[.int .i64 z1, .int .i64 z2, .int .i64 z3, .slice a4 xs4.length c4]) = m.val ∧ m.kind = 14 ∧ m.parts = ps ∧ m.Reads w4) := Lib.hid fun ps r hres => by
    have hcb := HE.out.trans hres
    obtain ⟨p1, r1, q1, e1, h1, rfl⟩ := comb_cons hcb
    obtain ⟨x1, f1, rfl⟩ := as_inl e1
    obtain ⟨p2, r2, q2, e2, h2, rfl⟩ := comb_cons h1
    obtain ⟨x2, f2, rfl⟩ := as_inl e2
    obtain ⟨p3, r3, q3, e3, h3, rfl⟩ := comb_cons h2
    obtain ⟨x3, f3, rfl⟩ := as_inl e3
    obtain ⟨p4, r4, q4, e4, h4, rfl⟩ := comb_cons h3
    obtain ⟨x4, f4, rfl⟩ := as_inl e4
    obtain rfl := comb_nil h4
    obtain rfl := HZ1.out _ _ f1
    obtain rfl := HZ2.out _ _ f2
    obtain rfl := HZ3.out _ _ f3
    have k4 := run_ok (t := .v) (o := (rest res3)) (p := .v x4) (r := r4) (by rw [run_v, H4.out]; exact e4)
    obtain rfl := HZ4.out _ _ f4
    exact ⟨.result_ z1 z2 z3 xs4 (.slice a4 xs4.length c4), rfl, rfl, rfl, ⟨readsE_own HO4.out, fun e he => by have := E.right_bd (ok_evs k4 e he); omega⟩⟩
  clear HZ1 HZ2 HZ3 HZ4 H1 H2 H3 H4 HE
  go_wp2
  go_ret
  exact ⟨⟨_, _, rfl, HT.out⟩, by rw [HRR.out]; exact HM4.out, HG4.out⟩
end Go.Proofs.Ytljcgpdjhjkciaa
