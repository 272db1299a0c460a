/-
  Own texts, joined: FrameProg RegionPass
-/
import Derived.Test.YtmfhipjceeijmaaGreatDoorBun9
import Derived.Test.YtmfhipjceeijmaaGreatDoorBun2
import Derived.Deep.RegionHeld3

/-
  Walks of package frame: sumOf, Put, takeHead, Take.
-/
namespace Go.Proofs.YtmfhipjceeijmaaGreatDoor
open Go.RowKit
attribute [local go_sem] ext_Bd ext_Bl ext_Bt toList_B add_B size_B get_Bt

set_option maxRecDepth 100000 in
theorem sumOf_at (a b : List UInt8) (r : Nat) (w : World) (ha : a.length ≤ 100000000) (hb : b.length ≤ 100000000) (H : Hid (C.upd 0 (a ++ b) = r)) :
    Calls Tryz.prog 133 #[.string (B a), .string (B b)] w fun e w' => e = .returned (.int .u32 r) ∧ Below w.heap.size w w' := by
  have HD := Lib.hid (C.upd_append 0 a b)
  have hl1 : C.upd 0 a < 4294967296 := C.upd_lt (by omega) a
  go_enter Tryz.func133, Tryz.ntmps133
  go_wp2_with fail
  refine (Sum_l a w ha).mono ?_
  rintro e w1 ⟨rfl, hb1⟩
  generalize C.upd 0 a = x at *
  go_wp2_with fail
  refine (chain (Update_l x b w1 hl1 hb) hb1).mono ?_
  rintro e w2 ⟨rfl, hb2⟩
  rw [← HD.out, H.out]
  go_wp2
  go_ret
  exact ⟨rfl, hb2⟩

def putS (p : List UInt8) : List UInt8 := if F.code p = 0 then F.frame p else []
theorem putS_ok {p : List UInt8} (h : F.good p) : putS p = F.frame p := by unfold putS; rw [if_pos (F.code_good h)]
theorem putS_bad {p : List UInt8} (h : F.code p ≠ 0) : putS p = [] := by unfold putS; rw [if_neg h]

set_option maxHeartbeats 1000000 in
set_option maxRecDepth 100000 in
theorem FPut_none (w : World) :
    Calls Tryz.prog 115 #[.string (B [])] w fun e w' => e = .returned (.tuple #[.string (B []), .int .i64 2]) ∧ w' = w := by
  go_enter Tryz.func115, Tryz.ntmps115
  go_wp2
  go_ret2
  exact ⟨rfl, rfl⟩

theorem empty_ne {p : List UInt8} (h : 0 < p.length) : p.isEmpty = false := by
  cases p with
  | nil => simp at h
  | cons x r => rfl

set_option maxHeartbeats 1000000 in
set_option maxRecDepth 100000 in
theorem FPut_long (p : List UInt8) (w : World) (h : 8000 < p.length) :
    Calls Tryz.prog 115 #[.string (B p)] w fun e w' => e = .returned (.tuple #[.string (B []), .int .i64 4]) ∧ w' = w := by
  have he := empty_ne (p := p) (by omega)
  go_enter Tryz.func115, Tryz.ntmps115
  go_wp2
  go_ret2
  exact ⟨rfl, rfl⟩

set_option maxHeartbeats 1000000 in
set_option maxRecDepth 100000 in
theorem FPut_ok (p : List UInt8) (w : World) (h : F.good p) :
    Calls Tryz.prog 115 #[.string (B p)] w fun e w' => e = .returned (.tuple #[.string (B (F.frame p)), .int .i64 0]) ∧ Below w.heap.size w w' := by
  have h1 := h.1
  have h2 := h.2
  clear h
  have he := empty_ne (p := p) h1
  have HS := Lib.hid (show C.upd 0 (N.fixL p.length ++ p) = F.sumOf p from rfl)
  have HF := Lib.hid (show F.frame p = N.fixL p.length ++ (N.fixL (F.sumOf p) ++ p) from rfl)
  have hsl := F.sumOf_lt p
  have hf1 := F.fixL_len p.length
  have hf2 := F.fixL_len (F.sumOf p)
  go_enter Tryz.func115, Tryz.ntmps115
  go_wp2_with fail
  refine (Fixed_l p.length _ (by omega)).mono ?_
  rintro e w1 ⟨rfl, hb1⟩
  generalize N.fixL p.length = q at *
  go_wp2_with fail
  refine (chain (sumOf_at q p (F.sumOf p) _ (by omega) (by omega) HS) hb1).mono ?_
  rintro e w2 ⟨rfl, hb2⟩
  generalize F.sumOf p = s at *
  go_wp2_with fail
  refine (chain (Fixed_l s _ hsl) hb2).mono ?_
  rintro e w3 ⟨rfl, hb3⟩
  generalize N.fixL s = t at *
  go_wp2
  go_ret2
  rw [HF.out]
  exact ⟨ret_two (str_eq (by simp)) rfl, hb3⟩
theorem FPut_l (p : List UInt8) (w : World) :
    Calls Tryz.prog 115 #[.string (B p)] w fun e w' => e = .returned (.tuple #[.string (B (putS p)), .int .i64 (F.code p)]) ∧ Below w.heap.size w w' := by
  by_cases h0 : p.length = 0
  · obtain rfl : p = [] := List.length_eq_zero_iff.1 h0
    exact (FPut_none w).mono fun e w' ⟨a, b⟩ => ⟨a, by rw [b]; exact Below.refl _ _⟩
  · by_cases h8 : 8000 < p.length
    · rw [F.code_long h8, putS_bad (by rw [F.code_long h8]; omega)]
      exact (FPut_long p w h8).mono fun e w' ⟨a, b⟩ => ⟨a, by rw [b]; exact Below.refl _ _⟩
    · have hg : F.good p := ⟨by omega, by omega⟩
      rw [F.code_good hg, putS_ok hg]
      exact FPut_ok p w hg
theorem FPut_at (p s : List UInt8) (c : Nat) (w : World) (HS : Hid (putS p = s)) (HC : Hid (F.code p = c)) :
    Calls Tryz.prog 115 #[.string (B p)] w fun e w' => e = .returned (.tuple #[.string (B s), .int .i64 c]) ∧ Below w.heap.size w w' := by
  rw [← HS.out, ← HC.out]; exact FPut_l p w

set_option maxHeartbeats 1000000 in
set_option maxRecDepth 100000 in
theorem takeHead_few (l : List UInt8) (w : World) (h : l.length < 8) :
    Calls Tryz.prog 132 #[.string (B l)] w fun e w' => e = .returned (.tuple #[.int .u32 0, .int .u32 0, .string (B []), .int .i64 3]) ∧ Below w.heap.size w w' := by
  by_cases h4 : l.length < 4
  · go_enter Tryz.func132, Tryz.ntmps132
    go_wp2_with fail
    refine (TakeFixed_l l w (by omega)).mono ?_
    rintro e w1 ⟨rfl, hq1⟩
    rw [txRes_bad h4]
    have hb1 := below_quiet (Below.refl w.heap.size w) hq1
    clear hq1
    go_wp2
    (try simp only [Exit.inBlock, Exit.then])
    refine bodyPost_ret (results_four rfl _ _ _) rfl ?_
    exact ⟨rfl, hb1⟩
  · have hd : (l.drop 4).length < 4 := by rw [List.length_drop]; omega
    go_enter Tryz.func132, Tryz.ntmps132
    go_wp2_with fail
    refine (TakeFixed_l l w (by omega)).mono ?_
    rintro e w1 ⟨rfl, hq1⟩
    rw [txRes_ok h4]
    have hb1 := below_quiet (Below.refl w.heap.size w) hq1
    clear hq1
    go_wp2_with fail
    refine (TakeFixed_l (l.drop 4) _ (by omega)).mono ?_
    rintro e w2 ⟨rfl, hq2⟩
    rw [txRes_bad hd]
    have hb2 := below_quiet hb1 hq2
    clear hq2
    go_wp2
    (try simp only [Exit.inBlock, Exit.then])
    refine bodyPost_ret (results_four rfl _ _ _) rfl ?_
    exact ⟨rfl, hb2⟩

set_option maxHeartbeats 1000000 in
set_option maxRecDepth 100000 in
theorem takeHead_ok (l : List UInt8) (w : World) (h : ¬ l.length < 8) (hl : l.length ≤ 100000000) :
    Calls Tryz.prog 132 #[.string (B l)] w fun e w' => e = .returned (.tuple #[.int .u32 (N.fixV l), .int .u32 (N.fixV (l.drop 4)), .string (B (l.drop 8)), .int .i64 0]) ∧ Below w.heap.size w w' := by
  have hd : ¬ (l.drop 4).length < 4 := by rw [List.length_drop]; omega
  have hd2 : (l.drop 4).length ≤ 100000000 := by rw [List.length_drop]; omega
  have h8 : (l.drop 4).drop 4 = l.drop 8 := by rw [List.drop_drop]
  go_enter Tryz.func132, Tryz.ntmps132
  go_wp2_with fail
  refine (TakeFixed_l l w hl).mono ?_
  rintro e w1 ⟨rfl, hq1⟩
  rw [txRes_ok (by omega)]
  have hb1 := below_quiet (Below.refl w.heap.size w) hq1
  clear hq1
  go_wp2_with fail
  refine (TakeFixed_l (l.drop 4) _ hd2).mono ?_
  rintro e w2 ⟨rfl, hq2⟩
  rw [txRes_ok hd, h8]
  have hb2 := below_quiet hb1 hq2
  clear hq2
  go_wp2
  (try simp only [Exit.inBlock, Exit.then])
  refine bodyPost_ret (results_four rfl _ _ _) rfl ?_
  exact ⟨rfl, hb2⟩

def ftRes (o : F.Tk) : Value :=
  match o with
  | Sum.inl (p, r) => .tuple #[.string (B p), .string (B r), .int .i64 0]
  | Sum.inr e => .tuple #[.string (B []), .string (B []), .int .i64 e]
theorem ftRes_ok (p r : List UInt8) : ftRes (.ok p r) = .tuple #[.string (B p), .string (B r), .int .i64 0] := rfl
theorem ftRes_bad (e : Nat) : ftRes (.bad e) = .tuple #[.string (B []), .string (B []), .int .i64 e] := rfl

set_option maxHeartbeats 1000000 in
set_option maxRecDepth 100000 in
theorem FTake_l (l : List UInt8) (w : World) (hl : l.length ≤ 100000000) :
    Calls Tryz.prog 102 #[.string (B l)] w fun e w' => e = .returned (ftRes (F.take l)) ∧ Below w.heap.size w w' := by
  by_cases h8 : l.length < 8
  · rw [F.take_few h8, ftRes_bad]
    go_enter Tryz.func102, Tryz.ntmps102
    go_wp2_with fail
    refine (takeHead_few l w h8).mono ?_
    rintro e w1 ⟨rfl, hb1⟩
    go_wp2
    go_ret3
    exact ⟨rfl, hb1⟩
  have hv : N.fixV l < 4294967296 := N.fixV_lt l
  have hdl : (l.drop 8).length = l.length - 8 := List.length_drop
  by_cases h0 : N.fixV l = 0
  · rw [F.take_zero h8 h0, ftRes_bad]
    go_enter Tryz.func102, Tryz.ntmps102
    go_wp2_with fail
    refine (takeHead_ok l w h8 hl).mono ?_
    rintro e w1 ⟨rfl, hb1⟩
    rw [h0]
    go_wp2
    go_ret3
    exact ⟨rfl, hb1⟩
  have h0b : ((N.fixV l : Nat) : Int) ≠ 0 := by omega
  have h0c : (((N.fixV l : Nat) : Int) == 0) = false := beq_eq_false_iff_ne.2 h0b
  by_cases h1 : 8000 < N.fixV l
  · rw [F.take_long h8 h1, ftRes_bad]
    clear h0 h0b hdl
    go_enter Tryz.func102, Tryz.ntmps102
    go_wp2_with fail
    refine (takeHead_ok l w h8 hl).mono ?_
    rintro e w1 ⟨rfl, hb1⟩
    generalize N.fixV l = n at *
    go_wp2
    go_ret3
    exact ⟨rfl, hb1⟩
  by_cases h2 : l.length - 8 < N.fixV l
  · rw [F.take_short h8 h0 h1 h2, ftRes_bad]
    rw [← hdl] at h2
    clear h0 h0b hdl
    go_enter Tryz.func102, Tryz.ntmps102
    go_wp2_with fail
    refine (takeHead_ok l w h8 hl).mono ?_
    rintro e w1 ⟨rfl, hb1⟩
    generalize N.fixV l = n at *
    generalize l.drop 8 = d at *
    go_wp2
    go_ret3
    exact ⟨rfl, hb1⟩
  have h4 : N.fixL (N.fixV l) = l.take 4 := F.fix_of (by omega)
  by_cases h3 : C.upd 0 (l.take 4 ++ (l.drop 8).take (N.fixV l)) = N.fixV (l.drop 4)
  · rw [F.take_ok h8 h0 h1 h2 h3, ftRes_ok]
    obtain ⟨r1, HR1⟩ : ∃ r1, Hid ((l.drop 8).take (N.fixV l) = r1) := ⟨_, Lib.hid rfl⟩
    obtain ⟨r2, HR2⟩ : ∃ r2, Hid ((l.drop 8).drop (N.fixV l) = r2) := ⟨_, Lib.hid rfl⟩
    rw [HR1.out, HR2.out]
    rw [← hdl] at h2
    rw [← h4] at h3
    have h5 := F.fixL_len (N.fixV l)
    have hsl : N.fixV (l.drop 4) < 4294967296 := N.fixV_lt _
    clear h0 h0b h4
    go_enter Tryz.func102, Tryz.ntmps102
    go_wp2_with fail
    refine (takeHead_ok l w h8 hl).mono ?_
    rintro e w1 ⟨rfl, hb1⟩
    have H3 := Lib.hid h3
    clear h3
    generalize N.fixV (l.drop 4) = s at *
    generalize N.fixV l = n at *
    have hdl2 : (l.drop 8).length ≤ 100000000 := by omega
    clear h8 hl hdl
    generalize l.drop 8 = d at *
    have hnb : n ≤ (B d).size := by rw [size_B]; omega
    have hni : (n : Int) ≤ d.length := by omega
    have htl : (d.take n).length ≤ 100000000 := by rw [List.length_take]; omega
    go_wp2
    go_quiet (fail)
    go_wp2_with fail
    refine (chain (Fixed_l n _ hv) (below_quiet hb1 ⟨_, rfl⟩)).mono ?_
    rintro e w2 ⟨rfl, hb2⟩
    generalize N.fixL n = q at *
    go_wp2_with fail
    refine (chain (sumOf_at q (d.take n) s _ (by omega) htl H3) hb2).mono ?_
    rintro e w3 ⟨rfl, hb3⟩
    go_wp2
    go_ret3
    rw [← HR1.out, ← HR2.out]
    exact ⟨rfl, hb3⟩
  · rw [F.take_sum h8 h0 h1 h2 h3, ftRes_bad]
    rw [← hdl] at h2
    rw [← h4] at h3
    have h5 := F.fixL_len (N.fixV l)
    have hsl : N.fixV (l.drop 4) < 4294967296 := N.fixV_lt _
    clear h0 h0b h4
    go_enter Tryz.func102, Tryz.ntmps102
    go_wp2_with fail
    refine (takeHead_ok l w h8 hl).mono ?_
    rintro e w1 ⟨rfl, hb1⟩
    obtain ⟨x, HX⟩ : ∃ x, Hid (C.upd 0 (N.fixL (N.fixV l) ++ (l.drop 8).take (N.fixV l)) = x) := ⟨_, Lib.hid rfl⟩
    rw [HX.out] at h3
    generalize N.fixV (l.drop 4) = s at *
    have hxs : ((x : Int) == (s : Int)) = false := beq_eq_false_iff_ne.2 (by omega)
    have hxt : ((x : Int) != (s : Int)) = true := by rw [bne, hxs]; rfl
    clear h3
    generalize N.fixV l = n at *
    have hdl2 : (l.drop 8).length ≤ 100000000 := by omega
    clear h8 hl hdl
    generalize l.drop 8 = d at *
    have hnb : n ≤ (B d).size := by rw [size_B]; omega
    have hni : (n : Int) ≤ d.length := by omega
    have htl : (d.take n).length ≤ 100000000 := by rw [List.length_take]; omega
    go_wp2
    go_quiet (fail)
    go_wp2_with fail
    refine (chain (Fixed_l n _ hv) (below_quiet hb1 ⟨_, rfl⟩)).mono ?_
    rintro e w2 ⟨rfl, hb2⟩
    generalize N.fixL n = q at *
    go_wp2_with fail
    refine (chain (sumOf_at q (d.take n) x _ (by omega) htl HX) hb2).mono ?_
    rintro e w3 ⟨rfl, hb3⟩
    go_wp2
    go_ret3
    exact ⟨rfl, hb3⟩
theorem FTake_at (l : List UInt8) (v : Value) (w : World) (hl : l.length ≤ 100000000) (H : Hid (ftRes (F.take l) = v)) :
    Calls Tryz.prog 102 #[.string (B l)] w fun e w' => e = .returned v ∧ Below w.heap.size w w' := by
  rw [← H.out]; exact FTake_l l w hl

end Go.Proofs.YtmfhipjceeijmaaGreatDoor

/-
  A region that draws its order, walked operation by operation: laws that hand over each operation written out, also one that its guard passes over.
-/
namespace Go.Proofs.YtmfhipjceeijmaaGreatDoor
open Go.RowKit
section
variable {P : Program} {ops : Array Oper} {Q : Exit → Act → World → Prop} {md : Region.Mode} {S : World → Prop} {fuel : Nat} {listed : Array Bool} {a : Act} {w : World}
theorem op_at {i : Nat} {oi : Oper} {rest : List Oper} (hl : ops.toList.drop i = oi :: rest) : ops[i]? = some oi := by
  have h := congrArg (fun l => l[0]?) hl
  simpa using h
/-- An operation that yields its value in every world that meets S is taken first. -/
theorem take_wanted {i : Nat} {oi : Oper} {rest : List Oper} {v : Value} (hl : ops.toList.drop i = oi :: rest) (hs : Region.noSelect ops = true) (hf : Region.free md ops listed i = true) (hr : (Region.ready md ops listed).contains i = true)
    (hQ : ∀ c a w, Q (.panic c) (a.put oi.dst v) w → Q (.panic c) a w) (hw : Region.wanted oi (yielded ops a.tmps) = true) (hy : ∀ w, S w → (execOp a.eval oi).run P w = .ok (.value v) w) (hS : S w)
    (h : wpAnyH P md ops Q S fuel (listed.setIfInBounds i true) (a.put oi.dst v) w) : wpAnyH P md ops Q S (fuel + 1) listed a w :=
  wpAnyH_take (op_at hl) hs hf hr hQ (.inl ⟨hw, hy⟩) hS h
/-- An operation that its guard passes over is taken first. -/
theorem take_passed {i : Nat} {oi : Oper} {rest : List Oper} (hl : ops.toList.drop i = oi :: rest) (hs : Region.noSelect ops = true) (hf : Region.free md ops listed i = true) (hr : (Region.ready md ops listed).contains i = true)
    (hQ : ∀ c a w, Q (.panic c) (a.put oi.dst undef) w → Q (.panic c) a w) (hw : Region.wanted oi (yielded ops a.tmps) = false) (hS : S w)
    (h : wpAnyH P md ops Q S fuel (listed.setIfInBounds i true) (a.put oi.dst undef) w) : wpAnyH P md ops Q S (fuel + 1) listed a w :=
  wpAnyH_take (op_at hl) hs hf hr hQ (.inr ⟨hw, rfl⟩) hS h
/-- The one operation that may come up is carried out. -/
theorem take_only {i : Nat} {oi : Oper} {rest : List Oper} (hr : Region.ready md ops listed = [i]) (hl : ops.toList.drop i = oi :: rest) (hw : Region.wanted oi (yielded ops a.tmps) = true)
    (h : ∀ K' : Act → World → Prop, Shut (∀ a w, S w → (S w → wpAnyH P md ops Q S fuel (listed.setIfInBounds i true) a w) → K' a w) → Oper.wp P oi a w K' Q) : wpAnyH P md ops Q S (fuel + 1) listed a w :=
  wpAnyH_ready hr (by simp) (AllReadyH.cons (op_at hl) (fun K' hK => by rw [if_pos hw]; exact h K' hK) AllReadyH.nil)
end
end Go.Proofs.YtmfhipjceeijmaaGreatDoor
