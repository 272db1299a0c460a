/-
  Proved: for every event, every batch and every text the law EventBack of package bucketlinelaw5 returns true, and its arguments read as before: what was put is taken, with what stands behind; with a byte less it is not. No condition.
-/
import Derived.Test.YtjjefdfjmkbbiaaEventHeld
import Derived.Test.YtjjefdfjmkbbiaaEventReader4
import Derived.Deep.RegionHeld3
import Derived.ProofKit
import Derived.OpenShut
import Derived.ShutString
namespace Go.Proofs.Ytjjefdfjmkbbiaa
open Go.ChangeShapes Go.WideShapes Go.ChangeAt Go.RowKit
open Go.ChangeMaps (open_string shut_string)
attribute [local go_sem] ext_Bd ext_Bl ext_Bt toList_B add_B size_B get_Bt

theorem eventBack_own : ownKnob Try.prog.godebug = none := by kernel_rfl
theorem eventBack_laid : laidOutB Try.prog = true := by kernel_rfl


theorem light_small3 {b : E.Bat} (h : E.Light b) : E.Small b := ⟨by have := h.1; omega, by have := h.2.1; omega, fun e he => by have := h.2.2 e he; omega⟩
theorem bytes_pos (b : E.Bat) : 0 < (E.bytes b).length := by
  have := N.putL_pos b.stream.length
  unfold E.bytes N.putT
  simp only [List.length_append]
  omega
theorem putE_pos (e : E.Ev) : 0 < (E.putE e).length := by
  have := N.putL_pos e.1.length
  unfold E.putE N.putT
  simp only [List.length_append]
  omega
theorem cell_keep {w w' : World} {p : Addr} {u : Value} (h : w.cell? p = some u) (hb : Below w.heap.size w w') : w'.cell? p = some u := by rw [hb.cell (World.block_lt_of_cell? w _ h)]; exact h
theorem cell_new {w : World} {p : Addr} {u : Value} (h : w.cell? p = some u) (o : Obj) : (w.alloc o).cell? p = some u := cell_keep h ((Below.refl _ w).alloc (Nat.le_refl _) o)
theorem EB_new {w0 : World} {g h : Nat} {k d st : List UInt8} {ex se sq : Int} {v : Value} {a : World} (hs : EB w0 g h k d st ex se sq v a) (o : Obj) : EB w0 g h k d st ex se sq v (a.alloc o) := EB_call hs ((Below.refl _ a).alloc (Nat.le_refl _) o)
theorem sameBatch_at2 (x y : E.Bat) (u v : Value) (r : Bool) (w : World) (hu : ReadsE w u x.events) (hv : ReadsE w v y.events) (HX : Hid (E.Small x)) (H : Hid (E.sameB x y = r)) :
    Calls Try.prog 21 #[batV x u, batV y v] w fun e w' => e = .returned (.bool r) ∧ Below w.heap.size w w' := by
  rw [← H.out]; exact sameBatch_l x y u v w hu hv (by have := HX.out.2.1; omega)

set_option maxHeartbeats 8000000 in
set_option maxRecDepth 100000 in
theorem eventBack_l (e : E.Ev) (b : E.Bat) (v : Value) (more : List UInt8) (w : World) (hv : ReadsE w v b.events) :
    Calls Try.prog 4 #[evV e, batV b v, .string (B more)] w fun r w' => r = .returned (.bool true) ∧ Below w.heap.size w w' := by
  obtain ⟨k, d⟩ := e
  obtain ⟨st, ex, se, sq, evs⟩ := b
  dsimp only at hv
  have HV := Lib.hid hv
  obtain ⟨a, cap, rfl, _, _, _⟩ := hv
  go_enter Try.func4, Try.ntmps4
  go_wp2_with fail
  refine (shown5_any _).mono ?_
  rintro x w1 ⟨rfl, hb1⟩
  have hS1 := EB_made w hb1
  clear hb1
  go_wp2_with fail
  refine (light_l ⟨st, ex, se, sq, evs⟩ _ w1 (readsE_below HV.out hS1.2.2.2.2.2.2.2)).mono ?_
  rintro x w2 ⟨hres, hb2⟩
  have hS := EB_call hS1 hb2
  clear hS1 hb2
  have hkb : Below w.heap.size w w2 := hS.2.2.2.2.2.2.2
  rcases hres with rfl | ⟨rfl, hl⟩
  · go_wp2
    go_ret
    exact ⟨rfl, hkb⟩
  by_cases h1 : 300 < k.length
  · have h1i : (300 : Int) < k.length := by omega
    go_wp2
    go_ret
    exact ⟨rfl, hkb⟩
  have h1i : ¬ (300 : Int) < k.length := by omega
  by_cases h2 : 500 < d.length
  · have h2i : (500 : Int) < d.length := by omega
    go_wp2
    go_ret
    exact ⟨rfl, hkb⟩
  have h2i : ¬ (500 : Int) < d.length := by omega
  by_cases h3 : 300 < more.length
  · have h3i : (300 : Int) < more.length := by omega
    go_wp2
    go_ret
    exact ⟨rfl, hkb⟩
  have h3i : ¬ (300 : Int) < more.length := by omega
  clear hkb
  have HL := Lib.hid (light_small3 hl)
  clear hl
  obtain ⟨f, HF⟩ : ∃ f, Hid (E.fits ⟨st, ex, se, sq, evs⟩ = f) := ⟨_, Lib.hid rfl⟩
  have hk3 : k.length ≤ 1000 := by omega
  have hd3 : d.length ≤ 1000 := by omega
  cases hr : E.right (k, d)
  · have HR := Lib.hid hr
    clear hr
    go_wp2_with fail
    refine (Right_at (k, d) false w2 hk3 hd3 HR).mono ?_
    rintro x w3 ⟨rfl, hb3⟩
    have hS9 := EB_call hS hb3
    clear hS hb3
    go_wp2_with fail
    refine (Fits_eb ⟨st, ex, se, sq, evs⟩ f hS9 HV HL HF).mono ?_
    rintro x w10 ⟨rfl, hb10⟩
    have hS10 := EB_call hS9 hb10
    clear hS9 hb10
    by_cases hf : f = 0
    · subst hf
      have HF0 := Lib.hid HF.out
      have hlb := E.bytes_len HF.out
      obtain ⟨pb, HPB⟩ : ∃ pb, Hid (E.bytes ⟨st, ex, se, sq, evs⟩ = pb) := ⟨_, Lib.hid rfl⟩
      rw [HPB.out] at hlb
      have HPV := Lib.hid (show E.putBat ⟨st, ex, se, sq, evs⟩ = pb by rw [E.putBat_ok HF.out]; exact HPB.out)
      have HTB := Lib.hid (show batRes (E.takeBat (pb ++ more)) = (⟨st, ex, se, sq, evs⟩, more, 0) by rw [← HPB.out, E.take_put HF.out]; rfl)
      have HTL0 := E.take_less HF.out
      rw [HPB.out] at HTL0
      have hpos : 0 < pb.length := by rw [← HPB.out]; exact bytes_pos _
      obtain ⟨pl, hpl⟩ : ∃ pl, pb.length = pl + 1 := ⟨pb.length - 1, by omega⟩
      rw [hpl, Nat.add_sub_cancel] at HTL0
      have HTL := Lib.hid (show batRes (E.takeBat (pb.take pl)) = (⟨[], 0, 0, 0, []⟩, [], 3) by rw [HTL0]; rfl)
      have htl : (pb.take pl).length ≤ 1000000 := by rw [List.length_take]; omega
      clear HTL0 hpos
      go_wp2_with fail
      refine (EPutBat_eb ⟨st, ex, se, sq, evs⟩ pb hS10 HV HL HPV).mono ?_
      rintro x w11 ⟨rfl, hb11⟩
      have hS11 := EB_call hS10 hb11
      clear hS10 hb11
      go_wp2_with fail
      refine (ETakeBat_at (pb ++ more) _ _ _ w11 (by rw [List.length_append]; omega) HTB).mono ?_
      rintro x w12 ⟨v2, rfl, hv2, hb12⟩
      have HV2 := Lib.hid hv2
      obtain ⟨a2, cap2, rfl, -⟩ := hv2
      have hS12 := EB_call hS11 hb12
      clear hS11 hb12
      have HS13 := Lib.hid (EB_new hS12 (.cells #[.string (B st), .int .i64 ex, .int .i64 se, .int .i64 sq, .slice a2 evs.length cap2] 26))
      clear hS12
      go_wp2_with fail
      refine (ETakeBat_at (pb.take pl) _ _ _ _ htl HTL).mono ?_
      rintro x w14 ⟨v3, rfl, hv3, hb14⟩
      obtain ⟨a3, cap3, rfl, -⟩ := hv3
      have HV3 := Lib.hid (readsE_below HV2.out (below_box hb14))
      have y0 := box_at hb14 0
      have y1 := box_at hb14 1
      have y2 := box_at hb14 2
      have y3 := box_at hb14 3
      have y4 := box_at hb14 4
      simp at y0 y1 y2 y3 y4
      have HS14 := Lib.hid (EB_call HS13.out hb14)
      clear hb14 HS13 HV2
      have hS15 := EB_new HS14.out (.cells #[.string (B []), .int .i64 0, .int .i64 0, .int .i64 0, .slice a3 ([] : List E.Ev).length cap3] 26)
      have z0 := cell_new y0 (.cells #[.string (B []), .int .i64 0, .int .i64 0, .int .i64 0, .slice a3 ([] : List E.Ev).length cap3] 26)
      have z1 := cell_new y1 (.cells #[.string (B []), .int .i64 0, .int .i64 0, .int .i64 0, .slice a3 ([] : List E.Ev).length cap3] 26)
      have z2 := cell_new y2 (.cells #[.string (B []), .int .i64 0, .int .i64 0, .int .i64 0, .slice a3 ([] : List E.Ev).length cap3] 26)
      have z3 := cell_new y3 (.cells #[.string (B []), .int .i64 0, .int .i64 0, .int .i64 0, .slice a3 ([] : List E.Ev).length cap3] 26)
      have z4 := cell_new y4 (.cells #[.string (B []), .int .i64 0, .int .i64 0, .int .i64 0, .slice a3 ([] : List E.Ev).length cap3] 26)
      have HV4 := Lib.hid (readsE_below HV3.out ((Below.refl _ w14).alloc (Nat.le_refl _) (.cells #[.string (B []), .int .i64 0, .int .i64 0, .int .i64 0, .slice a3 ([] : List E.Ev).length cap3] 26)))
      have HSS := Lib.hid hS15
      obtain ⟨-, -, q0, q1, q2, q3, q4, -⟩ := hS15
      clear y0 y1 y2 y3 y4
      simp only [List.length_nil] at *
      have HSB := Lib.hid (E.sameB_self ⟨st, ex, se, sq, evs⟩)
      go_wp2_with fail
      refine (sameBatch_at2 ⟨st, ex, se, sq, evs⟩ ⟨st, ex, se, sq, evs⟩ _ _ true _ HV4.out (readsE_below HV.out (EB_below HSS.out)) HL HSB).mono ?_
      rintro x w16 ⟨rfl, hb16⟩
      have z0 := cell_keep z0 hb16
      have z1 := cell_keep z1 hb16
      have z2 := cell_keep z2 hb16
      have z3 := cell_keep z3 hb16
      have z4 := cell_keep z4 hb16
      have hS16 := EB_call HSS.out hb16
      have HV5 := Lib.hid (readsE_below HV4.out hb16)
      clear hb16
      go_wp2_with fail
      refine (chain (ESame_at ⟨st, ex, se, sq, evs⟩ ⟨st, ex, se, sq, evs⟩ _ _ true w16 HV5.out (readsE_below HV.out (EB_below hS16)) HL.out HL.out HSB) (EB_below hS16)).mono ?_
      rintro x w17 ⟨rfl, hb17⟩
      go_wp2
      go_ret
      exact ⟨rfl, hb17⟩
    · have hfi : ((f : Int) == 0) = false := beq_eq_false_iff_ne.2 (by omega)
      have HPV := Lib.hid (show E.putBat ⟨st, ex, se, sq, evs⟩ = [] from E.putBat_bad (by rw [HF.out]; exact hf))
      go_wp2_with fail
      refine (chain (EPutBat_eb ⟨st, ex, se, sq, evs⟩ [] hS10 HV HL HPV) (EB_below hS10)).mono ?_
      rintro x w11 ⟨rfl, hb11⟩
      go_wp2
      go_ret
      exact ⟨by rfl, hb11⟩
  · have HR := Lib.hid hr
    have hpe := E.putE_len (e := (k, d)) hk3 hd3
    obtain ⟨pe, HPE⟩ : ∃ pe, Hid (E.putE (k, d) = pe) := ⟨_, Lib.hid rfl⟩
    rw [HPE.out] at hpe
    have HPW := Lib.hid (show E.putEv (k, d) = pe by rw [E.putEv_ok HR.out]; exact HPE.out)
    have HTE := Lib.hid (show evRes (E.takeEv (pe ++ more)) = ((k, d), more, 0) by rw [← HPE.out, E.ev_put HR.out]; rfl)
    have HTM0 := E.ev_less HR.out
    rw [HPE.out] at HTM0
    have hpos : 0 < pe.length := by rw [← HPE.out]; exact putE_pos _
    obtain ⟨ql, hql⟩ : ∃ ql, pe.length = ql + 1 := ⟨pe.length - 1, by omega⟩
    rw [hql, Nat.add_sub_cancel] at HTM0
    have HTM := Lib.hid (show evRes (E.takeEv (pe.take ql)) = (([], []), [], 3) by rw [HTM0]; rfl)
    have htq : (pe.take ql).length ≤ 1000000 := by rw [List.length_take]; omega
    clear HTM0 hpos hr
    go_wp2_with fail
    refine (Right_at (k, d) true w2 hk3 hd3 HR).mono ?_
    rintro x w3 ⟨rfl, hb3⟩
    have hS3 := EB_call hS hb3
    clear hS hb3
    go_wp2_with fail
    refine (EPut_at (k, d) pe w3 hk3 hd3 HPW).mono ?_
    rintro x w4 ⟨rfl, hb4⟩
    have hS4 := EB_call hS3 hb4
    clear hS3 hb4
    go_wp2_with fail
    refine (ETake_at (pe ++ more) _ _ _ w4 (by rw [List.length_append]; omega) HTE).mono ?_
    rintro x w5 ⟨rfl, hb5⟩
    have hS5 := EB_call hS4 hb5
    clear hS4 hb5
    have HS6 := Lib.hid (EB_new hS5 (.cells #[.string (B k), .string (B d)] 23))
    clear hS5
    go_wp2_with fail
    refine (ETake_at (pe.take ql) _ _ _ _ htq HTM).mono ?_
    rintro x w7 ⟨rfl, hb7⟩
    have y0 := box_at hb7 0
    have y1 := box_at hb7 1
    simp at y0 y1
    have HS7 := Lib.hid (EB_call HS6.out hb7)
    clear hb7 HS6
    have hS8 := EB_new HS7.out (.cells #[.string (B []), .string (B [])] 23)
    have z0 := cell_new y0 (.cells #[.string (B []), .string (B [])] 23)
    have z1 := cell_new y1 (.cells #[.string (B []), .string (B [])] 23)
    clear y0 y1 HS7
    have hS9 := hS8
    clear hS8
    go_wp2_with fail
    refine (Fits_eb ⟨st, ex, se, sq, evs⟩ f hS9 HV HL HF).mono ?_
    rintro x w10 ⟨rfl, hb10⟩
    have hS10 := EB_call hS9 hb10
    clear hS9 hb10
    by_cases hf : f = 0
    · subst hf
      have HF0 := Lib.hid HF.out
      have hlb := E.bytes_len HF.out
      obtain ⟨pb, HPB⟩ : ∃ pb, Hid (E.bytes ⟨st, ex, se, sq, evs⟩ = pb) := ⟨_, Lib.hid rfl⟩
      rw [HPB.out] at hlb
      have HPV := Lib.hid (show E.putBat ⟨st, ex, se, sq, evs⟩ = pb by rw [E.putBat_ok HF.out]; exact HPB.out)
      have HTB := Lib.hid (show batRes (E.takeBat (pb ++ more)) = (⟨st, ex, se, sq, evs⟩, more, 0) by rw [← HPB.out, E.take_put HF.out]; rfl)
      have HTL0 := E.take_less HF.out
      rw [HPB.out] at HTL0
      have hpos : 0 < pb.length := by rw [← HPB.out]; exact bytes_pos _
      obtain ⟨pl, hpl⟩ : ∃ pl, pb.length = pl + 1 := ⟨pb.length - 1, by omega⟩
      rw [hpl, Nat.add_sub_cancel] at HTL0
      have HTL := Lib.hid (show batRes (E.takeBat (pb.take pl)) = (⟨[], 0, 0, 0, []⟩, [], 3) by rw [HTL0]; rfl)
      have htl : (pb.take pl).length ≤ 1000000 := by rw [List.length_take]; omega
      clear HTL0 hpos
      go_wp2_with fail
      refine (EPutBat_eb ⟨st, ex, se, sq, evs⟩ pb hS10 HV HL HPV).mono ?_
      rintro x w11 ⟨rfl, hb11⟩
      have hS11 := EB_call hS10 hb11
      clear hS10 hb11
      go_wp2_with fail
      refine (ETakeBat_at (pb ++ more) _ _ _ w11 (by rw [List.length_append]; omega) HTB).mono ?_
      rintro x w12 ⟨v2, rfl, hv2, hb12⟩
      have HV2 := Lib.hid hv2
      obtain ⟨a2, cap2, rfl, -⟩ := hv2
      have hS12 := EB_call hS11 hb12
      clear hS11 hb12
      have HS13 := Lib.hid (EB_new hS12 (.cells #[.string (B st), .int .i64 ex, .int .i64 se, .int .i64 sq, .slice a2 evs.length cap2] 26))
      clear hS12
      go_wp2_with fail
      refine (ETakeBat_at (pb.take pl) _ _ _ _ htl HTL).mono ?_
      rintro x w14 ⟨v3, rfl, hv3, hb14⟩
      obtain ⟨a3, cap3, rfl, -⟩ := hv3
      have HV3 := Lib.hid (readsE_below HV2.out (below_box hb14))
      have y0 := box_at hb14 0
      have y1 := box_at hb14 1
      have y2 := box_at hb14 2
      have y3 := box_at hb14 3
      have y4 := box_at hb14 4
      simp at y0 y1 y2 y3 y4
      have HS14 := Lib.hid (EB_call HS13.out hb14)
      clear hb14 HS13 HV2
      have hS15 := EB_new HS14.out (.cells #[.string (B []), .int .i64 0, .int .i64 0, .int .i64 0, .slice a3 ([] : List E.Ev).length cap3] 26)
      have z0 := cell_new y0 (.cells #[.string (B []), .int .i64 0, .int .i64 0, .int .i64 0, .slice a3 ([] : List E.Ev).length cap3] 26)
      have z1 := cell_new y1 (.cells #[.string (B []), .int .i64 0, .int .i64 0, .int .i64 0, .slice a3 ([] : List E.Ev).length cap3] 26)
      have z2 := cell_new y2 (.cells #[.string (B []), .int .i64 0, .int .i64 0, .int .i64 0, .slice a3 ([] : List E.Ev).length cap3] 26)
      have z3 := cell_new y3 (.cells #[.string (B []), .int .i64 0, .int .i64 0, .int .i64 0, .slice a3 ([] : List E.Ev).length cap3] 26)
      have z4 := cell_new y4 (.cells #[.string (B []), .int .i64 0, .int .i64 0, .int .i64 0, .slice a3 ([] : List E.Ev).length cap3] 26)
      have HV4 := Lib.hid (readsE_below HV3.out ((Below.refl _ w14).alloc (Nat.le_refl _) (.cells #[.string (B []), .int .i64 0, .int .i64 0, .int .i64 0, .slice a3 ([] : List E.Ev).length cap3] 26)))
      have HSS := Lib.hid hS15
      obtain ⟨-, -, q0, q1, q2, q3, q4, -⟩ := hS15
      clear y0 y1 y2 y3 y4
      simp only [List.length_nil] at *
      have HSB := Lib.hid (E.sameB_self ⟨st, ex, se, sq, evs⟩)
      go_wp2_with fail
      refine (sameBatch_at2 ⟨st, ex, se, sq, evs⟩ ⟨st, ex, se, sq, evs⟩ _ _ true _ HV4.out (readsE_below HV.out (EB_below HSS.out)) HL HSB).mono ?_
      rintro x w16 ⟨rfl, hb16⟩
      have z0 := cell_keep z0 hb16
      have z1 := cell_keep z1 hb16
      have z2 := cell_keep z2 hb16
      have z3 := cell_keep z3 hb16
      have z4 := cell_keep z4 hb16
      have hS16 := EB_call HSS.out hb16
      have HV5 := Lib.hid (readsE_below HV4.out hb16)
      clear hb16
      go_wp2_with fail
      refine (chain (ESame_at ⟨st, ex, se, sq, evs⟩ ⟨st, ex, se, sq, evs⟩ _ _ true w16 HV5.out (readsE_below HV.out (EB_below hS16)) HL.out HL.out HSB) (EB_below hS16)).mono ?_
      rintro x w17 ⟨rfl, hb17⟩
      go_wp2
      go_ret
      exact ⟨rfl, hb17⟩
    · have hfi : ((f : Int) == 0) = false := beq_eq_false_iff_ne.2 (by omega)
      have HPV := Lib.hid (show E.putBat ⟨st, ex, se, sq, evs⟩ = [] from E.putBat_bad (by rw [HF.out]; exact hf))
      go_wp2_with fail
      refine (chain (EPutBat_eb ⟨st, ex, se, sq, evs⟩ [] hS10 HV HL HPV) (EB_below hS10)).mono ?_
      rintro x w11 ⟨rfl, hb11⟩
      go_wp2
      go_ret
      exact ⟨by rfl, hb11⟩
theorem eventBack_walk (e : E.Ev) (b : E.Bat) (v : Value) (s : ByteArray) (w : World) (hv : ReadsE w v b.events) :
    Calls Try.prog 4 #[evV e, batV b v, .string s] w fun r w' => r = .returned (.bool true) ∧ Below w.heap.size w w' := by
  have := eventBack_l e b v (L s) w hv
  rwa [B_L] at this

set_option maxRecDepth 100000 in
theorem eventBack_lifted (os : Os) (started : os.Started) (H : Type) (enc : TypeId × Value → H) :
    ReturnsInHanded {} Try.checked os 4 .any (Rows.eventBackSpec.pre6 enc Try.prog Try.f4 Rows.eventBackRow.domain false) (Rows.eventBackSpec.post enc Try.prog Try.f4 false true false false) := by
  refine returnsInHanded_of_change (C := Try.checked) eventBack_own started (by kernel_rfl) Try.func4
    (ChangeSpec.witness6 (enc := enc) (C := Try.checked) false ⟨#[], #[.agg #[.string ByteArray.empty, .string ByteArray.empty], .agg #[.string ByteArray.empty, .int .i64 0, .int .i64 0, .int .i64 0, .slice none 0 0], .string ByteArray.empty], []⟩ 8 (by kernel_rfl) (by kernel_rfl) (by kernel_rfl) (by kernel_rfl)) ?_
  intro W base args ds gs before hval0 hW _ _
  have hval : ∀ (j : Nat) t v, Try.f4.params[j]? = some t → args[j]? = some v → Value.okWide Try.prog W .any base t v := hval0
  have hW' := hW
  obtain ⟨p, q, hA0, hV, rfl, hfz, hnd⟩ := hW
  have hA : DataW.TrodAll enc Try.prog W 0 (fun _ => true) true Try.f4.params.toList args.toList ds p := hA0
  rw [Try.params4] at hA hval
  obtain ⟨v0, vs0, d0, ds0, p0, q0, hargs, rfl, rfl, h0, r0⟩ := trodAll_cons hA
  obtain ⟨v1, vs1, d1, ds1, p1, q1, rfl, rfl, rfl, h1, r1⟩ := trodAll_cons r0
  obtain ⟨v2, vs2, d2, ds2, p2, q2, rfl, rfl, rfl, h2, r2⟩ := trodAll_cons r1
  obtain ⟨rfl, rfl, rfl⟩ := trodAll_nil r2
  obtain rfl : args = #[v0, v1, v2] := by cases args; simp_all
  obtain ⟨rfl, rfl⟩ := trodVars_none hV
  have k0 := h0
  have lt0 : ∀ x ∈ p0, x.block < W.heap.size := by obtain ⟨m, hm⟩ := k0; exact DataW.trod_lt m _ _ _ hm
  obtain ⟨e0, rfl⟩ := arg_event Try.underlying23 (by kernel_rfl) (by kernel_rfl) Try.underlying9 Try.underlying9 (hval 0 23 v0 rfl rfl) h0
  have k1 := h1
  have lt1 : ∀ x ∈ p1, x.block < W.heap.size := by obtain ⟨m, hm⟩ := k1; exact DataW.trod_lt m _ _ _ hm
  obtain ⟨b1, u1, rfl, w1, _⟩ := arg_batch Try.underlying26 (by kernel_rfl) (by kernel_rfl) Try.underlying9 Try.underlying3 Try.underlying3 Try.underlying3 rfl Try.underlying24 Try.underlying23 (by kernel_rfl) (by kernel_rfl) Try.underlying9 Try.underlying9 (hval 1 26 v1 rfl rfl) h1
  obtain ⟨a2, rfl, rfl, rfl, w2⟩ := open_string Try.underlying9 (hval 2 9 v2 rfl rfl) h2
  clear hA0 hval0
  refine (eventBack_walk e0 b1 u1 a2 W w1).mono fun e W' ⟨he, bel⟩ => ?_
  subst he
  exact ⟨_, rfl, _, _, _, [], _, [], hW', trodAll_mk1 (shut_bool Try.underlying4 _), (trodAll_cons_mk (Below.trod eventBack_laid (by kernel_rfl) (of_decide_eq_true (by kernel_rfl)) k0 bel lt0) (trodAll_cons_mk (Below.trod eventBack_laid (by kernel_rfl) (of_decide_eq_true (by kernel_rfl)) k1 bel lt1) (trodAll_cons_mk (shut_string Try.underlying9 w2) trodAll_mk0))), rfl, bel.frame _, fun h => by cases h⟩

theorem eventBack_holds : Rows.EventBackSaid :=
  OpenClaim.holds_of_wide 4 Try.f4 rfl rfl rfl rfl rfl rfl rfl ⟨rfl, rfl, rfl, rfl, rfl⟩ rfl rfl rfl rfl rfl (by kernel_rfl) Try.func4 (by kernel_rfl)
    (of_decide_eq_true (by kernel_rfl)) (by unfold Func.isWrapper; first | (rw [if_pos (by decide +kernel)]; kernel_rfl) | (rw [if_neg (by decide +kernel)]; exact ⟨rfl, rfl⟩))
    (fun os started H enc _ => eventBack_lifted os started H enc)
#print axioms eventBack_holds

end Go.Proofs.Ytjjefdfjmkbbiaa
