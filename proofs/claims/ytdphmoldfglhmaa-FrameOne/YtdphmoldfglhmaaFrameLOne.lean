/-
  Proved: for every text the law FrameOne of package bucketlinelaw4 returns true, and its argument reads as before: what is taken off the front, framed again, is what stood there, and the rest is all that is behind. No condition.
-/
import Derived.Test.YtdphmoldfglhmaaFrameShown
import Derived.Test.YtdphmoldfglhmaaFrameRef2
import Derived.Test.YtdphmoldfglhmaaFrameMore
import Derived.ProofKit
import Derived.OpenShut
import Derived.ShutString
namespace Go.Proofs.Ytdphmoldfglhmaa
open Go.ChangeShapes Go.WideShapes Go.ChangeAt Go.RowKit
open Go.ChangeMaps (open_string shut_string)
attribute [local go_sem] ext_Bd ext_Bl ext_Bt toList_B add_B size_B get_Bt

theorem frameOne_own : ownKnob Try.prog.godebug = none := by kernel_rfl


set_option maxHeartbeats 2000000 in
set_option maxRecDepth 100000 in
theorem frameOne_l (s : List UInt8) (w : World) :
    Calls Try.prog 8 #[.string (B s)] w fun e w' => e = .returned (.bool true) ∧ Below w.heap.size w w' := by
  by_cases hs : 9000 < s.length
  · go_enter Try.func8, Try.ntmps8
    go_wp2_with fail
    refine (shown4_any w).mono ?_
    rintro e w1 ⟨rfl, hb1⟩
    go_wp2
    go_ret
    exact ⟨rfl, hb1⟩
  rcases F.take_cases s with ⟨c, ht, hc⟩ | ⟨p, r, ht⟩
  · have HT := Lib.hid (show tkRes (F.take s) = .tuple #[.string (B []), .string (B []), .int .i64 c] by rw [ht]; exact tkRes_bad c)
    have HSC := Lib.hid (F.scan_bad ht)
    have hne : ((c : Int) == 0) = false := beq_eq_false_iff_ne.2 (by omega)
    clear ht
    go_enter Try.func8, Try.ntmps8
    go_wp2_with fail
    refine (shown4_any w).mono ?_
    rintro e w1 ⟨rfl, hb1⟩
    go_wp2_with fail
    refine (chain (Take_at s _ w1 (by omega) HT) hb1).mono ?_
    rintro e w2 ⟨rfl, hb2⟩
    clear hb1
    go_wp2_with fail
    refine (Scan_l s w2 (by omega)).mono ?_
    rintro e w3 ⟨v, rfl, hown, hb3⟩
    rw [HSC.out] at hown ⊢
    obtain ⟨a, ca, rfl, hx⟩ := reads_own hown
    have hbb := hb2.trans (hb3.mono hb2.size)
    clear hown hx hb2 hb3
    go_wp2
    go_ret
    exact ⟨rfl, hbb⟩
  · have HT := Lib.hid (show tkRes (F.take s) = .tuple #[.string (B p), .string (B r), .int .i64 0] by rw [ht]; exact tkRes_ok p r)
    have HI := Lib.hid (F.take_inv ht)
    have HSC := Lib.hid (F.scan_ok ht)
    have hlr : s.length = p.length + 8 + r.length := by
      have := congrArg List.length HI.out.1
      rwa [List.length_append, F.frame_len] at this
    have hfl := F.frame_len p
    have hk := F.scan_count r
    have hm := F.scan_le r
    clear ht
    go_enter Try.func8, Try.ntmps8
    go_wp2_with fail
    refine (shown4_any w).mono ?_
    rintro e w1 ⟨rfl, hb1⟩
    go_wp2_with fail
    refine (chain (Take_at s _ w1 (by omega) HT) hb1).mono ?_
    rintro e w2 ⟨rfl, hb2⟩
    clear hb1
    go_wp2_with fail
    refine (chain (Put_ok p w2 HI.out.2) hb2).mono ?_
    rintro e w3 ⟨rfl, hb3⟩
    clear hb2
    go_wp2_with fail
    refine (Scan_l s w3 (by omega)).mono ?_
    rintro e w4 ⟨v, rfl, hown, hb4⟩
    rw [HSC.out] at hown ⊢
    have hr4 := reads_own hown
    have hbb4 := hb3.trans (hb4.mono hb3.size)
    clear hown hb3 hb4
    dsimp only at hr4 ⊢
    go_wp2_with fail
    refine (Scan_l r w4 (by omega)).mono ?_
    rintro e w5 ⟨v2, rfl, hown5, hb5⟩
    have hr5 := reads_own hown5
    have hr4b := reads_below hr4 hb5
    have hbb5 := hbb4.trans (hb5.mono hbb4.size)
    clear hown5 hb5 hbb4 hr4
    have HB : Hid (F.frame p ++ r = s) := Lib.hid HI.out.1.symm
    clear HI HSC HT
    generalize F.frame p = f at *
    generalize (F.scan r).2 = m at *
    generalize (F.scan r).1 = ks at *
    obtain ⟨a5, c5, rfl, _⟩ := hr5
    obtain ⟨a4, c4, rfl, hx⟩ := hr4b
    obtain ⟨b1, o1, rfl, hcell⟩ := hx 0 (by simp [strCells])
    have hcell2 : w5.cell? ⟨b1, o1, none⟩ = some (.string (B p)) := by
      have : o1 + 0 = o1 := rfl
      rw [← this, hcell]; simp [strCells]
    clear hx hcell
    simp only [strCells_len, List.length_cons]
    have hcat : f ++ r = s := HB.out
    go_wp2
    go_ret
    exact ⟨rfl, hbb5⟩
theorem frameOne_walk (s : ByteArray) (w : World) :
    Calls Try.prog 8 #[.string s] w fun e w' => e = .returned (.bool true) ∧ Below w.heap.size w w' := by
  rw [← B_L s]
  exact frameOne_l (L s) w

set_option maxRecDepth 100000 in
theorem frameOne_lifted (os : Os) (started : os.Started) (H : Type) (enc : TypeId × Value → H) :
    ReturnsInHanded {} Try.checked os 8 .any (Rows.frameOneSpec.pre6 enc Try.prog Try.f8 Rows.frameOneRow.domain false) (Rows.frameOneSpec.post enc Try.prog Try.f8 false true false false) := by
  refine returnsInHanded_of_change (C := Try.checked) frameOne_own started (by kernel_rfl) Try.func8
    (ChangeSpec.witness6 (enc := enc) (C := Try.checked) false ⟨#[], #[.string ByteArray.empty], []⟩ 8 (by kernel_rfl) (by kernel_rfl) (by kernel_rfl) (by kernel_rfl)) ?_
  intro W base args ds gs before hval0 hW _ _
  have hval : ∀ (j : Nat) t v, Try.f8.params[j]? = some t → args[j]? = some v → Value.okWide Try.prog W .any base t v := hval0
  have hW' := hW
  obtain ⟨p, q, hA0, hV, rfl, hfz, hnd⟩ := hW
  have hA : DataW.TrodAll enc Try.prog W 0 (fun _ => true) true Try.f8.params.toList args.toList ds p := hA0
  rw [Try.params8] at hA hval
  obtain ⟨v0, vs0, d0, ds0, p0, q0, hargs, rfl, rfl, h0, r0⟩ := trodAll_cons hA
  obtain ⟨rfl, rfl, rfl⟩ := trodAll_nil r0
  obtain rfl : args = #[v0] := by cases args; simp_all
  obtain ⟨rfl, rfl⟩ := trodVars_none hV
  obtain ⟨a0, rfl, rfl, rfl, w0⟩ := open_string Try.underlying9 (hval 0 9 v0 rfl rfl) h0
  clear hA0 hval0
  simp only [List.append_nil] at hW'
  refine (frameOne_walk a0 W).mono fun e W' ⟨he, bel⟩ => ?_
  subst he
  exact ⟨_, rfl, _, _, _, [], [], [], hW', trodAll_mk1 (shut_bool Try.underlying4 _), (trodAll_cons_mk (shut_string Try.underlying9 w0) trodAll_mk0), rfl, bel.frame _, fun h => by cases h⟩

theorem frameOne_holds : Rows.FrameOneSaid :=
  OpenClaim.holds_of_wide 8 Try.f8 rfl rfl rfl rfl rfl rfl rfl ⟨rfl, rfl, rfl, rfl, rfl⟩ rfl rfl rfl rfl rfl (by kernel_rfl) Try.func8 (by kernel_rfl)
    (of_decide_eq_true (by kernel_rfl)) (by unfold Func.isWrapper; first | (rw [if_pos (by decide +kernel)]; kernel_rfl) | (rw [if_neg (by decide +kernel)]; exact ⟨rfl, rfl⟩))
    (fun os started H enc _ => frameOne_lifted os started H enc)
#print axioms frameOne_holds

end Go.Proofs.Ytdphmoldfglhmaa
