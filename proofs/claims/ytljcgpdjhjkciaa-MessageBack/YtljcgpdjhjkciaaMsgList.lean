/-
  The reader of package message: lists.
-/
import Derived.Test.YtljcgpdjhjkciaaMsgOne
import Derived.Test.YtljcgpdjhjkciaaRecordRowE
namespace Go.Proofs.Ytljcgpdjhjkciaa
open Go.RowKit
attribute [local go_sem] ext_Bd ext_Bl ext_Bt toList_B add_B size_B get_Bt

/-- Where a list has come to: xs are taken, j are left to be taken, or there was an error. -/
def Come {α : Type} (take : List UInt8 → K.Rd α) (all : K.Rd (List α)) (xs : List α) (j : Nat) (o : Rs) : Prop :=
  match o with
  | .inl r => all = K.bind (K.takeN take j r) fun es q => Sum.inl (xs ++ es, q)
  | .inr e => all = Sum.inr e
theorem Come.start {α : Type} {take : List UInt8 → K.Rd α} {o : Rs} {n most : Nat} {res0 : K.Rd Nat} (H0 : run N.takeL o = res0) (hn : ∀ a r, res0 = Sum.inl (a, r) → n = a) (hle : ¬ most < n) : Come take (run (M.takeC most take) o) [] n (rest res0) := by
  have e : run (M.takeC most take) o = K.bind (run N.takeL o) fun n r => if most < n then Sum.inr 4 else K.takeN take n r := by cases o <;> rfl
  rw [e, H0]
  rcases res0 with ⟨a, r⟩ | c
  · obtain rfl := hn a r rfl
    show (if most < n then Sum.inr 4 else K.takeN take n r) = K.bind (K.takeN take n r) _
    rw [if_neg hle]
    rcases K.cases (K.takeN take n r) with ⟨e, h⟩ | ⟨a, q, h⟩ <;> rw [h] <;> rfl
  · rfl
theorem Come.long {α : Type} {take : List UInt8 → K.Rd α} {o : Rs} {n most : Nat} {res0 : K.Rd Nat} (H0 : run N.takeL o = res0) (hn : ∀ a r, res0 = Sum.inl (a, r) → n = a) (hn0 : ∀ e, res0 = Sum.inr e → n = 0) (hlt : most < n) : run (M.takeC most take) o = Sum.inr 4 := by
  have e : run (M.takeC most take) o = K.bind (run N.takeL o) fun n r => if most < n then Sum.inr 4 else K.takeN take n r := by cases o <;> rfl
  rw [e, H0]
  rcases res0 with ⟨a, r⟩ | c
  · obtain rfl := hn a r rfl
    exact if_pos hlt
  · have := hn0 c rfl
    omega
theorem Come.step {α : Type} {take : List UInt8 → K.Rd α} {all : K.Rd (List α)} {xs : List α} {j : Nat} {o : Rs} {res : K.Rd α} {x : α} (h : Come take all xs (j + 1) o) (hr : run take o = res) (hx : ∀ a r, res = Sum.inl (a, r) → x = a) : Come take all (xs ++ [x]) j (rest res) := by
  match o, h with
  | .inr e, h =>
    have e2 : (Sum.inr e : K.Rd α) = res := hr
    subst e2
    exact h
  | .inl l, h =>
    have e2 : take l = res := hr
    have h2 : all = K.bind (K.bind (take l) fun a r => K.bind (K.takeN take j r) fun es q => Sum.inl (a :: es, q)) fun es q => Sum.inl (xs ++ es, q) := h
    rw [e2] at h2
    rcases res with ⟨a, r⟩ | c
    · obtain rfl := hx a r rfl
      show all = K.bind (K.takeN take j r) fun es q => Sum.inl ((xs ++ [x]) ++ es, q)
      rw [h2]
      show K.bind (K.bind (K.takeN take j r) _) _ = _
      rcases K.cases (K.takeN take j r) with ⟨c, h⟩ | ⟨a, q, h⟩
      · rw [h]; rfl
      · rw [h]
        show Sum.inl (xs ++ (x :: a), q) = Sum.inl ((xs ++ [x]) ++ a, q)
        rw [List.append_assoc]; rfl
    · exact h2
theorem Come.done {α : Type} {take : List UInt8 → K.Rd α} {all : K.Rd (List α)} {xs : List α} {o : Rs} (h : Come take all xs 0 o) : rest all = o ∧ ∀ l r, all = Sum.inl (l, r) → xs = l := by
  match o, h with
  | .inr e, h =>
    have h2 : all = Sum.inr e := h
    subst h2
    exact ⟨rfl, fun l r e => by cases e⟩
  | .inl q, h =>
    have h2 : all = Sum.inl (xs ++ [], q) := h
    subst h2
    exact ⟨rfl, fun l r e => by cases e; simp⟩
theorem own_differ {w : World} {b1 b2 s1 s2 n1 n2 : Nat} {t1 t2 : TypeId} {v1 v2 : Value} {x1 x2 : List Value} (h1 : w.ownsRow b1 t1 s1 v1 n1 x1) (h2 : w.ownsRow b2 t2 s2 v2 n2 x2) (ht : t1 ≠ t2) : v1.ownBlock = none ∨ v1.ownBlock ≠ v2.ownBlock := by
  rcases h1.2 with ⟨rfl, _⟩ | ⟨g, cap, cur, rfl, _, hg, _⟩
  · exact .inl rfl
  · refine .inr fun e => ?_
    rcases h2.2 with ⟨rfl, _⟩ | ⟨g2, cap2, cur2, rfl, _, hg2, _⟩
    · cases e
    · cases e
      rw [hg] at hg2
      cases hg2
      exact ht rfl
def intC (zs : List Int) : List Value := zs.map (Value.int .i64)
theorem intC_len (zs : List Int) : (intC zs).length = zs.length := by simp [intC]
theorem Try.infoInt : (Try.prog.info? 3).map (fun i => (i.zero, i.size, i.bytes)) = some (some (.int .i64 0), 1, 8) := by kernel_rfl
theorem readsI_own {w : World} {base : Nat} {v : Value} {zs : List Int} (h : w.ownsRow base 3 1 v zs.length (intC zs)) (hz : ∀ z ∈ zs, i64B z) : ReadsI w v zs := by
  rcases h.2 with ⟨rfl, h0⟩ | ⟨g, cap, cur, rfl, _, _, hc, _⟩
  · exact ⟨none, 0, by rw [h0], fun i hi => by omega⟩
  · refine ⟨some ⟨g, 0, none⟩, cap, rfl, fun i hi => ⟨hz _ (List.getElem_mem hi), g, 0, rfl, ?_⟩⟩
    rw [Nat.zero_add, h.cellAt i (by omega)]
    simp [intC, hi]
/-- Lists in rows of the call's own. -/
abbrev RowX (t : TypeId) (size base : Nat) (v : Value) (n : Nat) (cells : List Value) (w : World) : Prop := w.ownsRow base t size v n cells

set_option maxHeartbeats 4000000 in
set_option maxRecDepth 100000 in
theorem rm_list_int {p : Nat} {o : Rs} {w : World} (most : Nat) (h : RM p o w) (res : K.Rd (List Int)) (H : Hid (run (M.takeC most M.takeI) o = res)) (hm : most ≤ 100) :
    Calls Try.prog 60 #[rdP p, .int .i64 most, .func (.func 36) #[rdP p] #[]] w fun x w' => (∃ (v : Value) (xs : List Int), x = .returned v ∧ w'.ownsRow w.heap.size 3 1 v xs.length (intC xs) ∧ (∀ l r, res = Sum.inl (l, r) → xs = l)) ∧ RM p (rest res) w' ∧ w.grownBy w' (some p) := by
  obtain ⟨i0, hi, hz0, hz1, hz2⟩ := info_parts Try.infoInt
  have hplt := h.lt
  obtain ⟨res0, H0⟩ : ∃ x, Hid (run N.takeL o = x) := ⟨_, Lib.hid rfl⟩
  have HH := Lib.hid (rm_number0 h res0 H0)
  clear h
  go_enter Try.func60, Try.ntmps60
  go_wp2_with fail
  refine HH.out.mono ?_
  rintro x w1 ⟨⟨n, rfl, hn1, hn2⟩, h1, hg1⟩
  have HN1 := Lib.hid hn1
  have HN2 := Lib.hid hn2
  have HG1 := Lib.hid hg1
  clear hn1 hn2 hg1 HH
  by_cases hlong : most < n
  · have HL := Lib.hid (show res = Sum.inr 4 by rw [← H.out]; exact Come.long H0.out HN1.out HN2.out hlong)
    have hgt : (most : Int) < (n : Int) := by omega
    obtain ⟨left, err, hc, hl, ho⟩ := h1
    obtain ⟨c0, c1, l0, l1⟩ := hc.cells
    have HF : Hid (RM p (.inr 4) (w1.setCell ⟨p, 1, none⟩ (.int .i64 4))) := Lib.hid ⟨left, 4, set_block hc 1 _, hl, rfl, by omega⟩
    clear hc ho
    go_wp2
    go_ret
    rw [HL.out]
    exact ⟨⟨_, [], rfl, World.ownsRow_nil _ _ _ _, (fun l r e => by cases e)⟩, HF.out, grown_set HG1.out 1 _⟩
  · have HC0 : Hid (Come M.takeI res (([] : List Int)) n (rest res0)) := Lib.hid (by rw [← H.out]; exact Come.start H0.out HN1.out hlong)
    have hgt : ¬ (most : Int) < (n : Int) := by omega
    have HM1 := Lib.hid h1
    clear h1 HN1 HN2 H0 H
    go_wp2
    go_loopw [8, 18] (fun u i wr => ∃ (xs : List Int) (ok : Rs), i = .int .i64 xs.length ∧ xs.length ≤ n ∧ RM p ok wr ∧ wr.ownsRow w.heap.size 3 1 u xs.length (intC xs) ∧ w.grownBy wr (some p) ∧ Come M.takeI res (xs) (n - xs.length) ok) (fun _ i _ => n - (intOf i).toNat)
    case atStart => exact ⟨[], _, rfl, Nat.zero_le _, HM1.out, World.ownsRow_nil _ _ _ _, HG1.out, HC0.out⟩
    case round =>
      obtain ⟨xs, ok, rfl, hk, hrm, hown, hgw, hcm⟩ := hrel
      have HRM := Lib.hid hrm
      have HOWN := Lib.hid hown
      have HGW := Lib.hid hgw
      have HCM := Lib.hid hcm
      obtain ⟨ua, uc, hu, -⟩ := own_slice hown
      clear hrm hown hgw hcm HC0 HM1 HG1
      by_cases hlt : xs.length < n
      · have hk1 : (xs.length : Int) < (n : Int) := by omega
        obtain ⟨res1, H1⟩ : ∃ x, Hid (run M.takeI ok = x) := ⟨_, Lib.hid rfl⟩
        have HNX : Hid (∀ z, (∀ a r, res1 = Sum.inl (a, r) → z = a) → Come M.takeI res (xs ++ [z]) (n - (xs.length + 1)) (rest res1)) := Lib.hid fun z hz => Come.step (by have := HCM.out; rwa [show n - xs.length = n - (xs.length + 1) + 1 by omega] at this) H1.out hz
        subst hu
        go_wp2_with fail
        refine (rm_number HRM.out res1 H1).mono ?_
        rintro x w2 ⟨⟨z, rfl, hz⟩, h2, hg2⟩
        have HCN := Lib.hid (HNX.out z hz)
        clear hz
        have hown2 := HOWN.out.kept hg2 (.inr (own_ne HOWN.out hplt).symm)
        have HOWN2 := Lib.hid hown2
        have HG2 := Lib.hid (HGW.out.trans hg2)
        have HM2 := Lib.hid h2
        have hsz2 := HG2.out.size
        have hne2 := own_ne hown2 hplt
        clear h2 hg2 HCM H1
        go_wp2_with (at_builtin; go_loud (refine wpList_append_own _ rfl _ _ 23 rfl w.heap.size 3 i0 _ 1 8 Try.underlying23 hi hz0 hz1 hz2 rfl (by decide) _ _ _ rfl (hown2.alloc _) ⟨w2.heap.size, 0, none⟩ 1 1 [.int .i64 z] rfl rfl (World.news_of_block (cs := #[.int .i64 z]) (t := 3) (fr := (0, 0)) (heap_alloc_new w2 _)) (by simp [Value.oneCell']) (by unfold maxLen; omega) (by omega) (by simp; omega) ?_; intro v' w3 hown3 hgrow3 _))
        have HM3 := Lib.hid ((HM2.out.new (.cells #[.int .i64 z] 3)).kept hgrow3 hne2)
        have HG3 : Hid (w.grownBy w3 (some p)) := Lib.hid ((HG2.out.trans (World.grownBy_alloc w2 (.cells #[.int .i64 z] 3) _)).andThen hgrow3 fun b hb => .inl (HOWN2.out.lt b hb).1)
        have HOWN3 : Hid (w3.ownsRow w.heap.size 3 1 v' (xs ++ [z]).length (intC (xs ++ [z]))) := Lib.hid (by rw [show intC (xs ++ [z]) = intC xs ++ [.int .i64 z] by simp [intC], List.length_append]; exact hown3)
        clear hown3 hgrow3 hown2 hne2
        go_wp2
        go_roundw
        case rel => exact ⟨xs ++ [z], _, by rw [List.length_append]; go_num, by rw [List.length_append]; simp; omega, HM3.out, HOWN3.out, HG3.out, by rw [List.length_append]; exact HCN.out⟩
        case measure => simp [intOf]; omega
      · have hkn : n - xs.length = 0 := by omega
        have hcd := HCM.out
        rw [hkn] at hcd
        have HD := Lib.hid hcd.done
        clear hcd
        subst hu
        go_wp2
        go_ret
        exact ⟨⟨_, xs, rfl, HOWN.out, HD.out.2⟩, by rw [HD.out.1]; exact HRM.out, HGW.out⟩

set_option maxHeartbeats 4000000 in
set_option maxRecDepth 100000 in
theorem rm_list_mark {p : Nat} {o : Rs} {w : World} (most : Nat) (h : RM p o w) (res : K.Rd (List R.Mk)) (H : Hid (run (M.takeC most M.takeMk) o = res)) (hm : most ≤ 100) :
    Calls Try.prog 38 #[rdP p, .int .i64 most, .func (.func 39) #[rdP p] #[]] w fun x w' => (∃ (v : Value) (xs : List R.Mk), x = .returned v ∧ w'.ownsRow w.heap.size 94 2 v xs.length (mkCells xs) ∧ (∀ l r, res = Sum.inl (l, r) → xs = l)) ∧ RM p (rest res) w' ∧ w.grownBy w' (some p) := by
  obtain ⟨i0, hi, hz0, hz1, hz2⟩ := info_parts Try.infoMk
  have hplt := h.lt
  obtain ⟨res0, H0⟩ : ∃ x, Hid (run N.takeL o = x) := ⟨_, Lib.hid rfl⟩
  have HH := Lib.hid (rm_number0 h res0 H0)
  clear h
  go_enter Try.func38, Try.ntmps38
  go_wp2_with fail
  refine HH.out.mono ?_
  rintro x w1 ⟨⟨n, rfl, hn1, hn2⟩, h1, hg1⟩
  have HN1 := Lib.hid hn1
  have HN2 := Lib.hid hn2
  have HG1 := Lib.hid hg1
  clear hn1 hn2 hg1 HH
  by_cases hlong : most < n
  · have HL := Lib.hid (show res = Sum.inr 4 by rw [← H.out]; exact Come.long H0.out HN1.out HN2.out hlong)
    have hgt : (most : Int) < (n : Int) := by omega
    obtain ⟨left, err, hc, hl, ho⟩ := h1
    obtain ⟨c0, c1, l0, l1⟩ := hc.cells
    have HF : Hid (RM p (.inr 4) (w1.setCell ⟨p, 1, none⟩ (.int .i64 4))) := Lib.hid ⟨left, 4, set_block hc 1 _, hl, rfl, by omega⟩
    clear hc ho
    go_wp2
    go_ret
    rw [HL.out]
    exact ⟨⟨_, [], rfl, World.ownsRow_nil _ _ _ _, (fun l r e => by cases e)⟩, HF.out, grown_set HG1.out 1 _⟩
  · have HC0 : Hid (Come M.takeMk res (([] : List R.Mk)) n (rest res0)) := Lib.hid (by rw [← H.out]; exact Come.start H0.out HN1.out hlong)
    have hgt : ¬ (most : Int) < (n : Int) := by omega
    have HM1 := Lib.hid h1
    clear h1 HN1 HN2 H0 H
    go_wp2
    go_loopw [8, 18] (fun u i wr => ∃ (xs : List R.Mk) (ok : Rs), i = .int .i64 xs.length ∧ xs.length ≤ n ∧ RM p ok wr ∧ wr.ownsRow w.heap.size 94 2 u xs.length (mkCells xs) ∧ w.grownBy wr (some p) ∧ Come M.takeMk res (xs) (n - xs.length) ok) (fun _ i _ => n - (intOf i).toNat)
    case atStart => exact ⟨[], _, rfl, Nat.zero_le _, HM1.out, World.ownsRow_nil _ _ _ _, HG1.out, HC0.out⟩
    case round =>
      obtain ⟨xs, ok, rfl, hk, hrm, hown, hgw, hcm⟩ := hrel
      have HRM := Lib.hid hrm
      have HOWN := Lib.hid hown
      have HGW := Lib.hid hgw
      have HCM := Lib.hid hcm
      obtain ⟨ua, uc, hu, -⟩ := own_slice hown
      clear hrm hown hgw hcm HC0 HM1 HG1
      by_cases hlt : xs.length < n
      · have hk1 : (xs.length : Int) < (n : Int) := by omega
        obtain ⟨res1, H1⟩ : ∃ x, Hid (run M.takeMk ok = x) := ⟨_, Lib.hid rfl⟩
        have HNX : Hid (∀ z, (∀ a r, res1 = Sum.inl (a, r) → z = a) → Come M.takeMk res (xs ++ [z]) (n - (xs.length + 1)) (rest res1)) := Lib.hid fun z hz => Come.step (by have := HCM.out; rwa [show n - xs.length = n - (xs.length + 1) + 1 by omega] at this) H1.out hz
        subst hu
        go_wp2_with fail
        refine (rm_mark HRM.out res1 H1).mono ?_
        rintro x w2 ⟨⟨⟨za, zb⟩, rfl, hz⟩, h2, hg2⟩
        have HCN := Lib.hid (HNX.out (za, zb) hz)
        clear hz
        have hown2 := HOWN.out.kept hg2 (.inr (own_ne HOWN.out hplt).symm)
        have HOWN2 := Lib.hid hown2
        have HG2 := Lib.hid (HGW.out.trans hg2)
        have HM2 := Lib.hid h2
        have hsz2 := HG2.out.size
        have hne2 := own_ne hown2 hplt
        clear h2 hg2 HCM H1
        go_wp2_with (at_builtin; go_loud (refine wpList_append_own _ rfl _ _ 24 rfl w.heap.size 94 i0 _ 2 16 Try.underlying24 hi hz0 hz1 hz2 rfl (by decide) _ _ _ rfl (hown2.alloc _) ⟨w2.heap.size, 0, none⟩ 1 1 [.int .i64 za, .int .i64 zb] rfl rfl (World.news_of_block (cs := #[.int .i64 za, .int .i64 zb]) (t := 94) (fr := (0, 0)) (heap_alloc_new w2 _)) (by simp [Value.oneCell']) (by unfold maxLen; omega) (by omega) (by simp; omega) ?_; intro v' w3 hown3 hgrow3 _))
        have HM3 := Lib.hid ((HM2.out.new (.cells #[.int .i64 za, .int .i64 zb] 94)).kept hgrow3 hne2)
        have HG3 : Hid (w.grownBy w3 (some p)) := Lib.hid ((HG2.out.trans (World.grownBy_alloc w2 (.cells #[.int .i64 za, .int .i64 zb] 94) _)).andThen hgrow3 fun b hb => .inl (HOWN2.out.lt b hb).1)
        have HOWN3 : Hid (w3.ownsRow w.heap.size 94 2 v' (xs ++ [(za, zb)]).length (mkCells (xs ++ [(za, zb)]))) := Lib.hid (by rw [mkCells_snoc, List.length_append]; exact hown3)
        clear hown3 hgrow3 hown2 hne2
        go_wp2
        go_roundw
        case rel => exact ⟨xs ++ [(za, zb)], _, by rw [List.length_append]; go_num, by rw [List.length_append]; simp; omega, HM3.out, HOWN3.out, HG3.out, by rw [List.length_append]; exact HCN.out⟩
        case measure => simp [intOf]; omega
      · have hkn : n - xs.length = 0 := by omega
        have hcd := HCM.out
        rw [hkn] at hcd
        have HD := Lib.hid hcd.done
        clear hcd
        subst hu
        go_wp2
        go_ret
        exact ⟨⟨_, xs, rfl, HOWN.out, HD.out.2⟩, by rw [HD.out.1]; exact HRM.out, HGW.out⟩

set_option maxHeartbeats 4000000 in
set_option maxRecDepth 100000 in
theorem rm_list_event {p : Nat} {o : Rs} {w : World} (most : Nat) (h : RM p o w) (res : K.Rd (List E.Ev)) (H : Hid (run (M.takeC most E.takeEv) o = res)) (hm : most ≤ 100) :
    Calls Try.prog 47 #[rdP p, .int .i64 most, .func (.func 48) #[rdP p] #[]] w fun x w' => (∃ (v : Value) (xs : List E.Ev), x = .returned v ∧ w'.ownsRow w.heap.size 57 2 v xs.length (evCells xs) ∧ (∀ l r, res = Sum.inl (l, r) → xs = l)) ∧ RM p (rest res) w' ∧ w.grownBy w' (some p) := by
  obtain ⟨i0, hi, hz0, hz1, hz2⟩ := info_parts Try.infoEv
  have hplt := h.lt
  obtain ⟨res0, H0⟩ : ∃ x, Hid (run N.takeL o = x) := ⟨_, Lib.hid rfl⟩
  have HH := Lib.hid (rm_number0 h res0 H0)
  clear h
  go_enter Try.func47, Try.ntmps47
  go_wp2_with fail
  refine HH.out.mono ?_
  rintro x w1 ⟨⟨n, rfl, hn1, hn2⟩, h1, hg1⟩
  have HN1 := Lib.hid hn1
  have HN2 := Lib.hid hn2
  have HG1 := Lib.hid hg1
  clear hn1 hn2 hg1 HH
  by_cases hlong : most < n
  · have HL := Lib.hid (show res = Sum.inr 4 by rw [← H.out]; exact Come.long H0.out HN1.out HN2.out hlong)
    have hgt : (most : Int) < (n : Int) := by omega
    obtain ⟨left, err, hc, hl, ho⟩ := h1
    obtain ⟨c0, c1, l0, l1⟩ := hc.cells
    have HF : Hid (RM p (.inr 4) (w1.setCell ⟨p, 1, none⟩ (.int .i64 4))) := Lib.hid ⟨left, 4, set_block hc 1 _, hl, rfl, by omega⟩
    clear hc ho
    go_wp2
    go_ret
    rw [HL.out]
    exact ⟨⟨_, [], rfl, World.ownsRow_nil _ _ _ _, (fun l r e => by cases e)⟩, HF.out, grown_set HG1.out 1 _⟩
  · have HC0 : Hid (Come E.takeEv res (([] : List E.Ev)) n (rest res0)) := Lib.hid (by rw [← H.out]; exact Come.start H0.out HN1.out hlong)
    have hgt : ¬ (most : Int) < (n : Int) := by omega
    have HM1 := Lib.hid h1
    clear h1 HN1 HN2 H0 H
    go_wp2
    go_loopw [8, 18] (fun u i wr => ∃ (xs : List E.Ev) (ok : Rs), i = .int .i64 xs.length ∧ xs.length ≤ n ∧ RM p ok wr ∧ wr.ownsRow w.heap.size 57 2 u xs.length (evCells xs) ∧ w.grownBy wr (some p) ∧ Come E.takeEv res (xs) (n - xs.length) ok) (fun _ i _ => n - (intOf i).toNat)
    case atStart => exact ⟨[], _, rfl, Nat.zero_le _, HM1.out, World.ownsRow_nil _ _ _ _, HG1.out, HC0.out⟩
    case round =>
      obtain ⟨xs, ok, rfl, hk, hrm, hown, hgw, hcm⟩ := hrel
      have HRM := Lib.hid hrm
      have HOWN := Lib.hid hown
      have HGW := Lib.hid hgw
      have HCM := Lib.hid hcm
      obtain ⟨ua, uc, hu, -⟩ := own_slice hown
      clear hrm hown hgw hcm HC0 HM1 HG1
      by_cases hlt : xs.length < n
      · have hk1 : (xs.length : Int) < (n : Int) := by omega
        obtain ⟨res1, H1⟩ : ∃ x, Hid (run E.takeEv ok = x) := ⟨_, Lib.hid rfl⟩
        have HNX : Hid (∀ z, (∀ a r, res1 = Sum.inl (a, r) → z = a) → Come E.takeEv res (xs ++ [z]) (n - (xs.length + 1)) (rest res1)) := Lib.hid fun z hz => Come.step (by have := HCM.out; rwa [show n - xs.length = n - (xs.length + 1) + 1 by omega] at this) H1.out hz
        subst hu
        go_wp2_with fail
        refine (rm_event HRM.out res1 H1).mono ?_
        rintro x w2 ⟨⟨⟨za, zb⟩, rfl, hz⟩, h2, hg2⟩
        have HCN := Lib.hid (HNX.out (za, zb) hz)
        clear hz
        have hown2 := HOWN.out.kept hg2 (.inr (own_ne HOWN.out hplt).symm)
        have HOWN2 := Lib.hid hown2
        have HG2 := Lib.hid (HGW.out.trans hg2)
        have HM2 := Lib.hid h2
        have hsz2 := HG2.out.size
        have hne2 := own_ne hown2 hplt
        clear h2 hg2 HCM H1
        go_wp2_with (at_builtin; go_loud (refine wpList_append_own _ rfl _ _ 26 rfl w.heap.size 57 i0 _ 2 32 Try.underlying26 hi hz0 hz1 hz2 rfl (by decide) _ _ _ rfl (hown2.alloc _) ⟨w2.heap.size, 0, none⟩ 1 1 [.string (B za), .string (B zb)] rfl rfl (World.news_of_block (cs := #[.string (B za), .string (B zb)]) (t := 57) (fr := (0, 0)) (heap_alloc_new w2 _)) (by simp [Value.oneCell']) (by unfold maxLen; omega) (by omega) (by simp; omega) ?_; intro v' w3 hown3 hgrow3 _))
        have HM3 := Lib.hid ((HM2.out.new (.cells #[.string (B za), .string (B zb)] 57)).kept hgrow3 hne2)
        have HG3 : Hid (w.grownBy w3 (some p)) := Lib.hid ((HG2.out.trans (World.grownBy_alloc w2 (.cells #[.string (B za), .string (B zb)] 57) _)).andThen hgrow3 fun b hb => .inl (HOWN2.out.lt b hb).1)
        have HOWN3 : Hid (w3.ownsRow w.heap.size 57 2 v' (xs ++ [(za, zb)]).length (evCells (xs ++ [(za, zb)]))) := Lib.hid (by rw [evCells_snoc, List.length_append]; exact hown3)
        clear hown3 hgrow3 hown2 hne2
        go_wp2
        go_roundw
        case rel => exact ⟨xs ++ [(za, zb)], _, by rw [List.length_append]; go_num, by rw [List.length_append]; simp; omega, HM3.out, HOWN3.out, HG3.out, by rw [List.length_append]; exact HCN.out⟩
        case measure => simp [intOf]; omega
      · have hkn : n - xs.length = 0 := by omega
        have hcd := HCM.out
        rw [hkn] at hcd
        have HD := Lib.hid hcd.done
        clear hcd
        subst hu
        go_wp2
        go_ret
        exact ⟨⟨_, xs, rfl, HOWN.out, HD.out.2⟩, by rw [HD.out.1]; exact HRM.out, HGW.out⟩

set_option maxHeartbeats 4000000 in
set_option maxRecDepth 100000 in
theorem rm_list_entry {p : Nat} {o : Rs} {w : World} (most : Nat) (h : RM p o w) (res : K.Rd (List R.En)) (H : Hid (run (M.takeC most R.takeEn) o = res)) (hm : most ≤ 100) :
    Calls Try.prog 40 #[rdP p, .int .i64 most, .func (.func 41) #[rdP p] #[]] w fun x w' => (∃ (v : Value) (xs : List EV), x = .returned v ∧ w'.ownsRow w.heap.size 55 7 v xs.length (enCells xs) ∧ (∀ e ∈ xs, w'.ownsRow w.heap.size 57 2 e.2 e.1.b.events.length (evCells e.1.b.events)) ∧ (∀ l r, res = Sum.inl (l, r) → (ensOf xs) = l)) ∧ RM p (rest res) w' ∧ w.grownBy w' (some p) := by
  obtain ⟨i0, hi, hz0, hz1, hz2⟩ := info_parts Try.infoEn
  have hplt := h.lt
  obtain ⟨res0, H0⟩ : ∃ x, Hid (run N.takeL o = x) := ⟨_, Lib.hid rfl⟩
  have HH := Lib.hid (rm_number0 h res0 H0)
  clear h
  go_enter Try.func40, Try.ntmps40
  go_wp2_with fail
  refine HH.out.mono ?_
  rintro x w1 ⟨⟨n, rfl, hn1, hn2⟩, h1, hg1⟩
  have HN1 := Lib.hid hn1
  have HN2 := Lib.hid hn2
  have HG1 := Lib.hid hg1
  clear hn1 hn2 hg1 HH
  by_cases hlong : most < n
  · have HL := Lib.hid (show res = Sum.inr 4 by rw [← H.out]; exact Come.long H0.out HN1.out HN2.out hlong)
    have hgt : (most : Int) < (n : Int) := by omega
    obtain ⟨left, err, hc, hl, ho⟩ := h1
    obtain ⟨c0, c1, l0, l1⟩ := hc.cells
    have HF : Hid (RM p (.inr 4) (w1.setCell ⟨p, 1, none⟩ (.int .i64 4))) := Lib.hid ⟨left, 4, set_block hc 1 _, hl, rfl, by omega⟩
    clear hc ho
    go_wp2
    go_ret
    rw [HL.out]
    exact ⟨⟨_, [], rfl, World.ownsRow_nil _ _ _ _, (fun e he => by simp at he), (fun l r e => by cases e)⟩, HF.out, grown_set HG1.out 1 _⟩
  · have HC0 : Hid (Come R.takeEn res ((ensOf ([] : List EV))) n (rest res0)) := Lib.hid (by rw [← H.out]; exact Come.start H0.out HN1.out hlong)
    have hgt : ¬ (most : Int) < (n : Int) := by omega
    have HM1 := Lib.hid h1
    clear h1 HN1 HN2 H0 H
    go_wp2
    go_loopw [8, 18] (fun u i wr => ∃ (xs : List EV) (ok : Rs), i = .int .i64 xs.length ∧ xs.length ≤ n ∧ RM p ok wr ∧ wr.ownsRow w.heap.size 55 7 u xs.length (enCells xs) ∧ (∀ e ∈ xs, wr.ownsRow w.heap.size 57 2 e.2 e.1.b.events.length (evCells e.1.b.events)) ∧ w.grownBy wr (some p) ∧ Come R.takeEn res ((ensOf xs)) (n - xs.length) ok) (fun _ i _ => n - (intOf i).toNat)
    case atStart => exact ⟨[], _, rfl, Nat.zero_le _, HM1.out, World.ownsRow_nil _ _ _ _, (fun e he => by simp at he), HG1.out, HC0.out⟩
    case round =>
      obtain ⟨xs, ok, rfl, hk, hrm, hown, hex, hgw, hcm⟩ := hrel
      have HRM := Lib.hid hrm
      have HOWN := Lib.hid hown
      have HGW := Lib.hid hgw
      have HCM := Lib.hid hcm
      have HEX := Lib.hid hex
      obtain ⟨ua, uc, hu, -⟩ := own_slice hown
      clear hrm hown hgw hcm hex HC0 HM1 HG1
      by_cases hlt : xs.length < n
      · have hk1 : (xs.length : Int) < (n : Int) := by omega
        obtain ⟨res1, H1⟩ : ∃ x, Hid (run R.takeEn ok = x) := ⟨_, Lib.hid rfl⟩
        have HNX : Hid (∀ z, (∀ a r, res1 = Sum.inl (a, r) → z = a) → Come R.takeEn res ((ensOf xs) ++ [z]) (n - (xs.length + 1)) (rest res1)) := Lib.hid fun z hz => Come.step (by have := HCM.out; rwa [show n - xs.length = n - (xs.length + 1) + 1 by omega] at this) H1.out hz
        subst hu
        go_wp2_with fail
        refine (rm_entry HRM.out res1 H1).mono ?_
        rintro x w2 ⟨⟨⟨pos, ep, ⟨st, ex, se, sq, evs⟩⟩, ev, rfl, hoe, hz⟩, h2, hg2⟩
        have HCN : Hid (Come R.takeEn res (ensOf (xs ++ [((⟨pos, ep, ⟨st, ex, se, sq, evs⟩⟩, ev) : EV)])) (n - (xs.length + 1)) (rest res1)) := Lib.hid (by rw [show ensOf (xs ++ [((⟨pos, ep, ⟨st, ex, se, sq, evs⟩⟩, ev) : EV)]) = ensOf xs ++ [⟨pos, ep, ⟨st, ex, se, sq, evs⟩⟩] by simp]; exact HNX.out _ hz)
        have HOE : Hid (w2.ownsRow w.heap.size 57 2 ev evs.length (evCells evs)) := Lib.hid (own_base5 hoe HGW.out.size)
        obtain ⟨ea, ec, rfl, -⟩ := own_slice hoe
        dsimp only [enV]
        clear hz hoe
        have hown2 := HOWN.out.kept hg2 (.inr (own_ne HOWN.out hplt).symm)
        have HOWN2 := Lib.hid hown2
        have HG2 := Lib.hid (HGW.out.trans hg2)
        have HM2 := Lib.hid h2
        have hsz2 := HG2.out.size
        have hne2 := own_ne hown2 hplt
        clear h2 HCM H1
        go_wp2_with (at_builtin; go_loud (refine wpList_append_own _ rfl _ _ 25 rfl w.heap.size 55 i0 _ 7 80 Try.underlying25 hi hz0 hz1 hz2 rfl (by decide) _ _ _ rfl (hown2.alloc _) ⟨w2.heap.size, 0, none⟩ 1 1 [.int .i64 pos, .int .i64 ep, .string (B st), .int .i64 ex, .int .i64 se, .int .i64 sq, .slice ea evs.length ec] rfl rfl (World.news_of_block (cs := #[.int .i64 pos, .int .i64 ep, .string (B st), .int .i64 ex, .int .i64 se, .int .i64 sq, .slice ea evs.length ec]) (t := 55) (fr := (0, 0)) (heap_alloc_new w2 _)) (by simp [Value.oneCell']) (by unfold maxLen; omega) (by omega) (by simp; omega) ?_; intro v' w3 hown3 hgrow3 _))
        have HM3 := Lib.hid ((HM2.out.new (.cells #[.int .i64 pos, .int .i64 ep, .string (B st), .int .i64 ex, .int .i64 se, .int .i64 sq, .slice ea evs.length ec] 55)).kept hgrow3 hne2)
        have HG3 : Hid (w.grownBy w3 (some p)) := Lib.hid ((HG2.out.trans (World.grownBy_alloc w2 (.cells #[.int .i64 pos, .int .i64 ep, .string (B st), .int .i64 ex, .int .i64 se, .int .i64 sq, .slice ea evs.length ec] 55) _)).andThen hgrow3 fun b hb => .inl (HOWN2.out.lt b hb).1)
        have HEX3 : Hid (∀ e ∈ xs ++ [((⟨pos, ep, ⟨st, ex, se, sq, evs⟩⟩, Value.slice ea evs.length ec) : EV)], w3.ownsRow w.heap.size 57 2 e.2 e.1.b.events.length (evCells e.1.b.events)) := Lib.hid (by
          have key : ∀ (e : EV), w2.ownsRow w.heap.size 57 2 e.2 e.1.b.events.length (evCells e.1.b.events) → w3.ownsRow w.heap.size 57 2 e.2 e.1.b.events.length (evCells e.1.b.events) := fun e he =>
            (he.alloc _).kept hgrow3 (own_differ he HOWN2.out (by decide))
          intro e he
          rcases List.mem_append.1 he with he | he
          · exact key e ((HEX.out e he).kept hg2 (.inr (own_ne (HEX.out e he) hplt).symm))
          · simp at he
            subst he
            exact key _ HOE.out)
        clear hg2
        have HOWN3 : Hid (w3.ownsRow w.heap.size 55 7 v' (xs ++ [((⟨pos, ep, ⟨st, ex, se, sq, evs⟩⟩, Value.slice ea evs.length ec) : EV)]).length (enCells (xs ++ [((⟨pos, ep, ⟨st, ex, se, sq, evs⟩⟩, Value.slice ea evs.length ec) : EV)]))) := Lib.hid (by rw [enCells_snoc, List.length_append]; exact hown3)
        clear hown3 hgrow3 hown2 hne2
        go_wp2
        go_roundw
        case rel => exact ⟨xs ++ [((⟨pos, ep, ⟨st, ex, se, sq, evs⟩⟩, Value.slice ea evs.length ec) : EV)], _, by rw [List.length_append]; go_num, by rw [List.length_append]; simp; omega, HM3.out, HOWN3.out, HEX3.out, HG3.out, by rw [List.length_append]; exact HCN.out⟩
        case measure => simp [intOf]; omega
      · have hkn : n - xs.length = 0 := by omega
        have hcd := HCM.out
        rw [hkn] at hcd
        have HD := Lib.hid hcd.done
        clear hcd
        subst hu
        go_wp2
        go_ret
        exact ⟨⟨_, xs, rfl, HOWN.out, HEX.out, HD.out.2⟩, by rw [HD.out.1]; exact HRM.out, HGW.out⟩

set_option maxHeartbeats 1000000 in
theorem rm_nodes {p : Nat} {o : Rs} {w : World} (h : RM p o w) (res : K.Rd (List Int)) (H : Hid (run (M.takeC 6 M.takeI) o = res)) :
    Calls Try.prog 37 #[rdP p] w fun x w' => (∃ (v : Value) (xs : List Int), x = .returned v ∧ w'.ownsRow w.heap.size 3 1 v xs.length (intC xs) ∧ (∀ l r, res = Sum.inl (l, r) → xs = l)) ∧ RM p (rest res) w' ∧ w.grownBy w' (some p) := by
  have hmf : ∀ (fn : Fn) (first cap : Array Value) (w : World), (Instr.makeFunc fn first cap).run Try.prog w = .ok (.func fn first cap) w := fun _ _ _ _ => rfl
  have HH := Lib.hid (rm_list_int 6 h res H (by omega))
  clear h H
  go_enter Try.func37, Try.ntmps37
  go_wp2_with fail
  refine HH.out.mono ?_
  rintro x w1 ⟨⟨v, xs, rfl, h1, h2⟩, h3, h4⟩
  go_wp2
  go_ret
  exact ⟨⟨v, xs, rfl, h1, h2⟩, h3, h4⟩
end Go.Proofs.Ytljcgpdjhjkciaa
