/-
  Proved: for every list of batches the law EventRows of package bucketlinelaw5 returns true, and its argument reads as before: batches one behind the other are taken one by one, as they were. No condition.
-/
import Derived.Test.YtjjefdfjmkbbiaaEventHeld
import Derived.Test.YtjjefdfjmkbbiaaEventRow
import Derived.Test.YtjjefdfjmkbbiaaEventHeld2
import Derived.Deep.AppendLies
import Derived.Deep.RegionHeld3
import Derived.ProofKit
import Derived.OpenShut
import Derived.ShutString
namespace Go.Proofs.Ytjjefdfjmkbbiaa
open Go.ChangeShapes Go.WideShapes Go.ChangeAt Go.RowKit
open Go.ChangeMaps (open_string shut_string)
attribute [local go_sem] ext_Bd ext_Bl ext_Bt toList_B add_B size_B get_Bt

theorem eventRows_own : ownKnob Try.prog.godebug = none := by kernel_rfl
theorem eventRows_laid : laidOutB Try.prog = true := by kernel_rfl


theorem light_small5 {b : E.Bat} (h : E.Light b) : E.Small b := ⟨by have := h.1; omega, by have := h.2.1; omega, fun e he => by have := h.2.2 e he; omega⟩
theorem cell_keep5 {w w' : World} {p : Addr} {u : Value} (h : w.cell? p = some u) (hb : Below w.heap.size w w') : w'.cell? p = some u := by rw [hb.cell (World.block_lt_of_cell? w _ h)]; exact h
theorem own_form {w : World} {base : Nat} {t : TypeId} {size : Nat} {v : Value} {n : Nat} {xs : List Value} (h : w.ownsRow base t size v n xs) : ∃ a c, v = .slice a n c ∧ ∀ i, i < n → ∃ g, a = some ⟨g, 0, none⟩ := by
  rcases h.2 with ⟨rfl, h0⟩ | ⟨g, cap, cur, rfl, _⟩
  · exact ⟨none, 0, by rw [h0], fun i hi => by omega⟩
  · exact ⟨_, cap, rfl, fun _ _ => ⟨g, rfl⟩⟩
/-- What the first loop has gathered: the batches that fit, in a row of the call's own, and their bytes. -/
structure InAt (w : World) (j : Nat) (s v : Value) (wr : World) (ins : List BV) : Prop where
  str : s = .string (B (ins.flatMap fun p => E.bytes p.1))
  own : wr.ownsRow w.heap.size 26 5 v ins.length (batCells ins)
  fit : ∀ p ∈ ins, E.fits p.1 = 0 ∧ ReadsE w p.2 p.1.events
  len : ins.length ≤ j
  bel : Below w.heap.size w wr
theorem fit_small {b : E.Bat} (h : E.fits b = 0) : E.Small b := by
  obtain ⟨hh, h8, hr⟩ := E.fits_inv h
  refine ⟨by have := nameL_len hh.1; omega, by omega, fun e he => ?_⟩
  have := E.right_bd (List.all_eq_true.1 hr e he)
  exact ⟨by omega, by omega⟩
theorem bytes_snoc (ins : List BV) (p : BV) : (ins ++ [p]).flatMap (fun p => E.bytes p.1) = (ins.flatMap fun p => E.bytes p.1) ++ E.bytes p.1 := by simp
theorem bytes_drop {ins : List BV} {j : Nat} (h : j < ins.length) : (ins.drop j).flatMap (fun p => E.bytes p.1) = E.bytes ins[j].1 ++ (ins.drop (j + 1)).flatMap fun p => E.bytes p.1 := by
  rw [List.drop_eq_getElem_cons h, List.flatMap_cons]

set_option maxHeartbeats 8000000 in
set_option maxRecDepth 100000 in
theorem eventRows_walk (bs : List BV) (v : Value) (w : World) (hv : ReadsB w v bs) :
    Calls Try.prog 8 #[v] w fun r w' => r = .returned (.bool true) ∧ Below w.heap.size w w' := by
  obtain ⟨a, cap, rfl, hx⟩ := hv
  have HX := Lib.hid hx
  clear hx
  obtain ⟨i0, hi, hz0, hz1, hz2⟩ := info_parts Try.infoBat
  by_cases hn : 20 < bs.length
  · have hni : (20 : Int) < bs.length := by omega
    go_enter Try.func8, Try.ntmps8
    go_wp2_with fail
    refine (shown5_any _).mono ?_
    rintro x w1 ⟨rfl, hb1⟩
    go_wp2
    go_ret
    exact ⟨rfl, hb1⟩
  have hni : ¬ (20 : Int) < bs.length := by omega
  go_enter Try.func8, Try.ntmps8
  go_wp2_with fail
  refine (shown5_any _).mono ?_
  rintro x w1 ⟨rfl, hb1⟩
  have HB1 := Lib.hid hb1
  clear hb1
  go_wp2
  go_loopw [4, 5, 6] (fun s v i wr => ∃ j : Nat, i = .int .i64 j ∧ j ≤ bs.length ∧ ∃ ins, InAt w j s v wr ins) (fun _ _ i _ => bs.length - (intOf i).toNat)
  case atStart => exact ⟨0, rfl, Nat.zero_le _, [], rfl, World.ownsRow_nil _ _ _ _, by simp, Nat.le_refl _, HB1.out⟩
  case round =>
    obtain ⟨j, rfl, hj, ins, hat⟩ := hrel
    have HAT := Lib.hid hat
    obtain ⟨hstr, -, -, -, -⟩ := hat
    subst hstr
    obtain ⟨acc, HACC⟩ : ∃ acc, Hid ((ins.flatMap fun p => E.bytes p.1) = acc) := ⟨_, Lib.hid rfl⟩
    have hal : acc.length ≤ 400000 := by
      have h1 := rows_len ins (fun p hp => (HAT.out.fit p hp).1)
      have h2 := HAT.out.len
      rw [HACC.out] at h1
      omega
    rw [HACC.out] at HAT ⊢
    have hbel := HAT.out.bel
    by_cases hlt : j < bs.length
    · obtain ⟨hre, b1, o1, rfl, c0, c1, c2, c3, c4⟩ := HX.out j hlt
      have hji : (j : Int) < (bs.length : Int) := by omega
      have key : ∀ {p : Addr} {u : Value}, w.cell? p = some u → wr.cell? p = some u := fun {p u} hp => by rw [hbel.cell (World.block_lt_of_cell? w _ hp)]; exact hp
      have d0 := key c0
      have d1 := key c1
      have d2 := key c2
      have d3 := key c3
      have d4 := key c4
      have HRE := Lib.hid hre
      clear key
      generalize bs[j] = q at *
      obtain ⟨⟨st, ex, se, sq, evs⟩, u⟩ := q
      dsimp only at *
      obtain ⟨ua, uc, rfl, -⟩ := hre
      go_wp2_with fail
      refine (light_l ⟨st, ex, se, sq, evs⟩ _ wr (readsE_below HRE.out hbel)).mono ?_
      rintro x w2 ⟨hres, hb2⟩
      have hb3 := hbel.trans (hb2.mono hbel.size)
      have d0 := cell_keep5 d0 hb2
      have d1 := cell_keep5 d1 hb2
      have d2 := cell_keep5 d2 hb2
      have d3 := cell_keep5 d3 hb2
      have d4 := cell_keep5 d4 hb2
      have HOWN2 := Lib.hid (own_below5 HAT.out.own hb2)
      clear hb2 hbel c0 c1 c2 c3 c4
      rcases hres with rfl | ⟨rfl, hl⟩
      · go_wp2
        go_ret
        exact ⟨rfl, hb3⟩
      have HL := Lib.hid (light_small5 hl)
      clear hl
      obtain ⟨f, HF⟩ : ∃ f, Hid (E.fits ⟨st, ex, se, sq, evs⟩ = f) := ⟨_, Lib.hid rfl⟩
      go_wp2_with fail
      refine (Fits_at ⟨st, ex, se, sq, evs⟩ _ f w2 (readsE_below HRE.out hb3) HL.out HF).mono ?_
      rintro x w3 ⟨rfl, hb4⟩
      have hb5 := hb3.trans (hb4.mono hb3.size)
      have d0 := cell_keep5 d0 hb4
      have d1 := cell_keep5 d1 hb4
      have d2 := cell_keep5 d2 hb4
      have d3 := cell_keep5 d3 hb4
      have d4 := cell_keep5 d4 hb4
      have HOWN3 := Lib.hid (own_below5 HOWN2.out hb4)
      clear hb4 hb3 HOWN2
      by_cases hf : f = 0
      · subst hf
        have hbl := E.bytes_len HF.out
        obtain ⟨pb, HPB⟩ : ∃ pb, Hid (E.bytes ⟨st, ex, se, sq, evs⟩ = pb) := ⟨_, Lib.hid rfl⟩
        rw [HPB.out] at hbl
        have HPV := Lib.hid (show E.putBat ⟨st, ex, se, sq, evs⟩ = pb by rw [E.putBat_ok HF.out]; exact HPB.out)
        go_wp2_with fail
        refine (EPutBat_at ⟨st, ex, se, sq, evs⟩ _ pb w3 (readsE_below HRE.out hb5) HL.out HPV).mono ?_
        rintro x w4 ⟨rfl, hb6⟩
        have hb7 := hb5.trans (hb6.mono hb5.size)
        have d0 := cell_keep5 d0 hb6
        have d1 := cell_keep5 d1 hb6
        have d2 := cell_keep5 d2 hb6
        have d3 := cell_keep5 d3 hb6
        have d4 := cell_keep5 d4 hb6
        have hown4 := own_below5 HOWN3.out hb6
        have hil := HAT.out.len
        have hsz4 := hb7.size
        clear hb6 hb5 HOWN3
        go_wp2_with (at_builtin; refine wpList_append_own _ rfl _ _ 43 rfl w.heap.size 26 i0 _ 5 64 Try.underlying43 hi hz0 hz1 hz2 rfl (by decide) _ _ _ rfl (hown4.alloc _) ⟨w4.heap.size, 0, none⟩ 1 1 [.string (B st), .int .i64 ex, .int .i64 se, .int .i64 sq, .slice ua evs.length uc] rfl rfl (World.news_of_block (cs := #[.string (B st), .int .i64 ex, .int .i64 se, .int .i64 sq, .slice ua evs.length uc]) (t := 26) (fr := (0, 0)) (heap_alloc_new w4 _)) (by simp [Value.oneCell']) (by unfold maxLen; omega) (by omega) (by simp; omega) ?_; intro v' w5 hown5 hgrow5 _)
        have HN : Hid (InAt w (j + 1) (.string (B (acc ++ pb))) v' w5 (ins ++ [(⟨st, ex, se, sq, evs⟩, .slice ua evs.length uc)])) := Lib.hid
          ⟨by rw [bytes_snoc, HACC.out]; exact congrArg (fun l => Value.string (B (acc ++ l))) HPB.out.symm,
           by rw [batCells_snoc, List.length_append]; exact hown5,
           fun p hp => by
            rcases List.mem_append.1 hp with h | h
            · exact HAT.out.fit p h
            · simp at h; subst h; exact ⟨HF.out, HRE.out⟩,
           by rw [List.length_append]; simp; omega,
           (hb7.alloc hb7.size _).grown hgrow5 (by simp; omega) (fun b hb => (hown4.lt b hb).1)⟩
        clear hown5 hgrow5 hown4 hb7
        go_wp2
        go_roundw
        case rel => exact ⟨j + 1, by go_num, by omega, _, HN.out⟩
        case measure => simp [intOf]; omega
      · have hfi : ((f : Int) == 0) = false := beq_eq_false_iff_ne.2 (by omega)
        have HN : Hid (InAt w (j + 1) (.string (B acc)) u5 w3 ins) := Lib.hid ⟨by rw [HACC.out], HOWN3.out, HAT.out.fit, by have := HAT.out.len; omega, hb5⟩
        go_wp2
        go_roundw
        case rel => exact ⟨j + 1, by go_num, by omega, _, HN.out⟩
        case measure => simp [intOf]; omega
    · have hji : ¬ (j : Int) < (bs.length : Int) := by omega
      obtain ⟨ra, rc, hrv, hra⟩ := own_form HAT.out.own
      subst hrv
      have HRA := Lib.hid hra
      have hil := HAT.out.len
      clear hra hbel
      have HFIT := Lib.hid HAT.out.fit
      have HOW := Lib.hid HAT.out.own
      have HBL := Lib.hid HAT.out.bel
      have HA0 : Hid (acc = (ins.drop 0).flatMap fun p => E.bytes p.1) := Lib.hid HACC.out.symm
      clear HAT HACC HX
      go_wp2
      go_loopw [4, 8] (fun s i wq => ∃ n : Nat, i = .int .i64 n ∧ n ≤ ins.length ∧ (s = .string (B ((ins.drop n).flatMap fun p => E.bytes p.1))) ∧ wq.ownsRow w.heap.size 26 5 (.slice ra ins.length rc) ins.length (batCells ins) ∧ Below w.heap.size w wq) (fun _ i _ => ins.length - (intOf i).toNat)
      case atStart => exact ⟨0, rfl, Nat.zero_le _, by rw [HA0.out], HOW.out, HBL.out⟩
      case round =>
        obtain ⟨n, rfl, hn2, rfl, hown, hbq⟩ := hrel
        have HOWN := Lib.hid hown
        have HBQ := Lib.hid hbq
        clear hown hbq HOW HBL HA0
        have hdl : ((ins.drop n).flatMap fun p => E.bytes p.1).length ≤ 400000 := by
          have h1 := rows_len (ins.drop n) (fun p hp => (HFIT.out p (List.mem_of_mem_drop hp)).1)
          rw [List.length_drop] at h1
          omega
        by_cases hlt : n < ins.length
        · have hnl : (n : Int) < (ins.length : Int) := by omega
          obtain ⟨gin, rfl⟩ := HRA.out n hlt
          have HFQ := Lib.hid (HFIT.out _ (List.getElem_mem hlt))
          have HBC := Lib.hid (batCells_get ins n hlt)
          have HSL := Lib.hid (bytes_drop hlt)
          obtain ⟨rest, HREST⟩ : ∃ rest, Hid (((ins.drop (n + 1)).flatMap fun p => E.bytes p.1) = rest) := ⟨_, Lib.hid rfl⟩
          rw [HREST.out] at HSL
          generalize ((ins.drop n).flatMap fun p => E.bytes p.1) = sl at *
          generalize ins[n] = q at *
          obtain ⟨⟨st, ex, se, sq, evs⟩, u⟩ := q
          dsimp only at *
          obtain ⟨ua, uc, hue, -⟩ := HFQ.out.2
          subst hue
          have HTB := Lib.hid (show batRes (E.takeBat sl) = (⟨st, ex, se, sq, evs⟩, rest, 0) by rw [HSL.out, E.take_put HFQ.out.1]; rfl)
          go_wp2_with fail
          refine (ETakeBat_at sl _ _ _ wr (by omega) HTB).mono ?_
          rintro x w3 ⟨v2, rfl, hv2, hb3⟩
          have HV2 := Lib.hid hv2
          obtain ⟨a2, c2, rfl, -⟩ := hv2
          have HB3 := Lib.hid (HBQ.out.trans (hb3.mono HBQ.out.size))
          have HOWN3 := Lib.hid (own_below5 HOWN.out hb3)
          clear hb3
          have HOW4 := Lib.hid (HOWN3.out.alloc (.cells #[.string (B st), .int .i64 ex, .int .i64 se, .int .i64 sq, .slice a2 evs.length c2] 26))
          have HB4 := Lib.hid (HB3.out.alloc HB3.out.size (.cells #[.string (B st), .int .i64 ex, .int .i64 se, .int .i64 sq, .slice a2 evs.length c2] 26))
          have HU := Lib.hid (readsE_below HV2.out ((Below.refl _ w3).alloc (Nat.le_refl _) (.cells #[.string (B st), .int .i64 ex, .int .i64 se, .int .i64 sq, .slice a2 evs.length c2] 26)))
          have HBX := Lib.hid (World.alloc_heap_new w3 (.cells #[.string (B st), .int .i64 ex, .int .i64 se, .int .i64 sq, .slice a2 evs.length c2] 26))
          go_wp2
          generalize (w3.alloc (.cells #[.string (B st), .int .i64 ex, .int .i64 se, .int .i64 sq, .slice a2 evs.length c2] 26)) = w5 at *
          generalize w3.heap.size = g5 at *
          have HU2 := Lib.hid (readsE_below HFQ.out.2 HB4.out)
          have hS : RB w5 g5 gin (n * 5) st ex se sq (.slice a2 evs.length c2) st ex se sq (.slice ua evs.length uc) w5 := by
            obtain ⟨e0, e1, e2, e3, e4⟩ := HBC.out
            refine ⟨block_cell HBX.out 0, block_cell HBX.out 1, block_cell HBX.out 2, block_cell HBX.out 3, block_cell HBX.out 4, ?_, ?_, ?_, ?_, ?_, Below.refl _ _⟩
            · exact (HOW4.out.cellAt (n * 5) (by omega)).trans e0
            · exact (HOW4.out.cellAt (n * 5 + 1) (by omega)).trans e1
            · exact (HOW4.out.cellAt (n * 5 + 2) (by omega)).trans e2
            · exact (HOW4.out.cellAt (n * 5 + 3) (by omega)).trans e3
            · exact (HOW4.out.cellAt (n * 5 + 4) (by omega)).trans e4
          have HSM := Lib.hid (fit_small HFQ.out.1)
          have HSS := Lib.hid (E.sameB_self ⟨st, ex, se, sq, evs⟩)
          go_region_held3 (fun w' => RB w5 g5 gin (n * 5) st ex se sq (.slice a2 evs.length c2) st ex se sq (.slice ua evs.length uc) w')
            (first | assumption | exact RB_drew (by assumption) | exact RB_call (by assumption) (by assumption))
            (first
              | (go_at_call 22; with_reducible refine (ESame_bk ⟨st, ex, se, sq, evs⟩ ⟨st, ex, se, sq, evs⟩ (.slice a2 evs.length c2) (.slice ua evs.length uc) true (RB_below (by assumption)) HU HU2 HSM HSM HSS).mono ?_; rintro x w6 ⟨rfl, hb6⟩)
              | (go_at_call 22; with_reducible refine (ESame_bk ⟨st, ex, se, sq, evs⟩ ⟨st, ex, se, sq, evs⟩ (.slice ua evs.length uc) (.slice a2 evs.length c2) true (RB_below (by assumption)) HU2 HU HSM HSM HSS).mono ?_; rintro x w7 ⟨rfl, hb7⟩))
          rename_i hHeld
          have HKB := Lib.hid (RB_below hHeld)
          clear hHeld hS
          go_wp2
          go_roundw
          case rel => exact ⟨n + 1, by go_num, by omega, by rw [HREST.out], own_below5 HOW4.out HKB.out, HB4.out.trans (HKB.out.mono HB4.out.size)⟩
          case measure => simp [intOf]; omega
        · obtain rfl : n = ins.length := by omega
          have HE := Lib.hid (show ((ins.drop ins.length).flatMap fun p => E.bytes p.1) = [] by rw [List.drop_length]; rfl)
          rw [HE.out]
          go_wp2
          go_ret
          exact ⟨rfl, HBQ.out⟩

set_option maxRecDepth 100000 in
theorem eventRows_lifted (os : Os) (started : os.Started) (H : Type) (enc : TypeId × Value → H) :
    ReturnsInHanded {} Try.checked os 8 .any (Rows.eventRowsSpec.pre6 enc Try.prog Try.f8 Rows.eventRowsRow.domain false) (Rows.eventRowsSpec.post enc Try.prog Try.f8 false true false false) := by
  refine returnsInHanded_of_change (C := Try.checked) eventRows_own started (by kernel_rfl) Try.func8
    (ChangeSpec.witness6 (enc := enc) (C := Try.checked) false ⟨#[], #[.slice none 0 0], []⟩ 8 (by kernel_rfl) (by kernel_rfl) (by kernel_rfl) (by kernel_rfl)) ?_
  intro W base args ds gs before hval0 hW _ _
  have hval : ∀ (j : Nat) t v, Try.f8.params[j]? = some t → args[j]? = some v → Value.okWide Try.prog W .any base t v := hval0
  have hW' := hW
  obtain ⟨p, q, hA0, hV, rfl, hfz, hnd⟩ := hW
  have hA : DataW.TrodAll enc Try.prog W 0 (fun _ => true) true Try.f8.params.toList args.toList ds p := hA0
  rw [Try.params8] at hA hval
  obtain ⟨v0, vs0, d0, ds0, p0, q0, hargs, rfl, rfl, h0, r0⟩ := trodAll_cons hA
  obtain ⟨rfl, rfl, rfl⟩ := trodAll_nil r0
  obtain rfl : args = #[v0] := by cases args; simp_all
  obtain ⟨rfl, rfl⟩ := trodVars_none hV
  have k0 := h0
  have lt0 : ∀ x ∈ p0, x.block < W.heap.size := by obtain ⟨m, hm⟩ := k0; exact DataW.trod_lt m _ _ _ hm
  obtain ⟨bs0, w0⟩ := arg_batches Try.underlying43 Try.underlying26 (by kernel_rfl) (by kernel_rfl) Try.underlying9 Try.underlying3 Try.underlying3 Try.underlying3 rfl Try.underlying24 Try.underlying23 (by kernel_rfl) (by kernel_rfl) Try.underlying9 Try.underlying9 (hval 0 43 v0 rfl rfl) h0
  clear hA0 hval0
  refine (eventRows_walk bs0 _ W w0).mono fun e W' ⟨he, bel⟩ => ?_
  subst he
  exact ⟨_, rfl, _, _, _, [], _, [], hW', trodAll_mk1 (shut_bool Try.underlying4 _), (trodAll_cons_mk (Below.trod eventRows_laid (by kernel_rfl) (of_decide_eq_true (by kernel_rfl)) k0 bel lt0) trodAll_mk0), rfl, bel.frame _, fun h => by cases h⟩

theorem eventRows_holds : Rows.EventRowsSaid :=
  OpenClaim.holds_of_wide 8 Try.f8 rfl rfl rfl rfl rfl rfl rfl ⟨rfl, rfl, rfl, rfl, rfl⟩ rfl rfl rfl rfl rfl (by kernel_rfl) Try.func8 (by kernel_rfl)
    (of_decide_eq_true (by kernel_rfl)) (by unfold Func.isWrapper; first | (rw [if_pos (by decide +kernel)]; kernel_rfl) | (rw [if_neg (by decide +kernel)]; exact ⟨rfl, rfl⟩))
    (fun os started H enc _ => eventRows_lifted os started H enc)
#print axioms eventRows_holds

end Go.Proofs.Ytjjefdfjmkbbiaa
