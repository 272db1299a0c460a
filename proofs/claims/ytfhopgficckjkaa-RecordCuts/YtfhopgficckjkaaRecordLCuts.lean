/-
  Proved: RecordCuts of bucketlinelaw6 is true for every argument: entries that follow one another do so in two parts, wherever they are cut; with one left out they do not.
-/
import Derived.Test.YtfhopgficckjkaaRecordShown
import Derived.Test.YtfhopgficckjkaaRecordSlice
import Derived.Test.YtfhopgficckjkaaRecordMore2
import Derived.Deep.RegionLaw
import Derived.Deep.DeepCutAuto
import Derived.Deep.RegionHeld3
import Derived.ProofKit
import Derived.OpenShut
import Derived.ShutString
namespace Go.Proofs.Ytfhopgficckjkaa
open Go.ChangeShapes Go.WideShapes Go.ChangeAt Go.RowKit
open Go.ChangeMaps (open_string shut_string)
attribute [local go_sem] ext_Bd ext_Bl ext_Bt toList_B add_B size_B get_Bt

theorem recordCuts_own : ownKnob Try.prog.godebug = none := by kernel_rfl
theorem recordCuts_laid : laidOutB Try.prog = true := by kernel_rfl


/-- append onto a row that the call owns, as a step of a region that draws its order. -/
theorem step_append_own {P : Program} {w : World} {ops : Array Oper} {o : Oper} {a : Act} {K : Act → World → Prop} {Q : Exit → Act → World → Prop} {E : Prop} (hgd : o.guard = none) (s x : Operand) (t : TypeId)
    (ho : o.op = .call { callee := .builtin .append, args := #[s, x], argTypes := #[t, t] })
    (base : Nat) (e : TypeId) (i : TypeInfo) (z : Value) (size bytes : Nat) (ht : P.underlying t = some (.slice e)) (hi : P.info? e = some i) (hz : i.zero = some z)
    (hsize : i.size = size) (hby : i.bytes = bytes) (hzs : z.cells.size = size) (hsz : 0 < size)
    (v : Value) (n : Nat) (xs : List Value) (hs : a.eval s = v) (hown : w.ownsRow base e size v n xs)
    (ad : Addr) (m c : Nat) (news : List Value) (hx : a.eval x = .slice (some ad) m c) (hl : news.length = m * size) (hnews : ∀ j u, news[j]? = some u → w.cell? (ad.add j) = some u) (h1 : ∀ u ∈ news, u.oneCell' = true)
    (h63 : n + m ≤ maxLen) (hbytes : (n + m) * bytes ≤ 140737488355328) (hbase : base ≤ w.heap.size)
    (h : ∀ v' w', w'.ownsRow base e size v' (n + m) (xs ++ news) → w.grownBy w' v.ownBlock → (v' = .slice none 0 0 ↔ v = .slice none 0 0 ∧ m = 0) → K (a.put o.dst v') w') :
    if Region.wanted o (yielded ops a.tmps) = true then Oper.wp P o a w K Q else E := by
  have hw : Region.wanted o (yielded ops a.tmps) = true := by simp [Region.wanted, hgd]
  rw [if_pos hw]
  exact wp_append_own w s x t ho base e i z size bytes ht hi hz hsize hby hzs hsz v n xs hs hown ad m c news hx hl hnews h1 h63 hbytes hbase h
/-- What a call reads and keeps: cells of old entries. -/
abbrev CK (w0 : World) (b o : Nat) (p0 : Int) (o2 : Nat) (p1 e1 : Int) (a : World) : Prop := a.cell? ⟨b, o, none⟩ = some (.int .i64 p0) ∧ a.cell? ⟨b, o2, none⟩ = some (.int .i64 p1) ∧ a.cell? ⟨b, o2 + 1, none⟩ = some (.int .i64 e1) ∧ KeptB w0 a
theorem CK_drew {w0 : World} {b o : Nat} {p0 : Int} {o2 : Nat} {p1 e1 : Int} {a : World} (h : CK w0 b o p0 o2 p1 e1 a) : CK w0 b o p0 o2 p1 e1 a.drew := ⟨h.1, h.2.1, h.2.2.1, keptB_drew h.2.2.2⟩
theorem CK_call {w0 : World} {b o : Nat} {p0 : Int} {o2 : Nat} {p1 e1 : Int} {a a' : World} (h : CK w0 b o p0 o2 p1 e1 a) (hb : Below a.heap.size a a') : CK w0 b o p0 o2 p1 e1 a' := ⟨below_keeps hb _ _ h.1, below_keeps hb _ _ h.2.1, below_keeps hb _ _ h.2.2.1, keptB_call h.2.2.2 hb⟩
theorem CK_bel {w0 : World} {b o : Nat} {p0 : Int} {o2 : Nat} {p1 e1 : Int} {a : World} (h : CK w0 b o p0 o2 p1 e1 a) : Below w0.heap.size w0 a := h.2.2.2

set_option maxHeartbeats 8000000 in
set_option maxRecDepth 100000 in
theorem recordCuts_walk (es : List EV) (v : Value) (at_ : Int) (hat : (Lit.int .i64 at_).wf = true) (w : World) (hv : ReadsR w v es) :
    Calls Try.prog 8 #[v, .int .i64 at_] w fun e w' => e = .returned (.bool true) ∧ Below w.heap.size w w' := by
  obtain ⟨i0, hi, hz0, hz1, hz2⟩ := info_parts Try.infoEn
  obtain ⟨hat1, hat2⟩ := i64_bd hat
  clear hat
  have HV := Lib.hid hv
  obtain ⟨av, cv, rfl, hcv, _, hx⟩ := hv
  have HX := Lib.hid hx; clear hx
  go_enter Try.func8, Try.ntmps8
  go_wp2_with fail
  refine (shown_l w).mono ?_
  rintro x w1 ⟨rfl, hb1⟩
  have HB1 := Lib.hid hb1; clear hb1
  go_wp2_with fail
  refine (small_l es _ w1 (readsR_below HV.out HB1.out)).mono ?_
  rintro x w2 ⟨hres, hb2⟩
  have HB2 := Lib.hid (HB1.out.trans (hb2.mono HB1.out.size)); clear hb2
  rcases hres with rfl | ⟨rfl, hlen, hlight⟩
  · go_wp2
    go_ret
    exact ⟨rfl, HB2.out⟩
  have HSM : Hid (∀ x ∈ es, E.Small x.1.b) := Lib.hid fun x hx => light_small (hlight x hx)
  clear hlight
  by_cases h2 : es.length < 2
  · have h2i : (es.length : Int) < 2 := by omega
    go_wp2
    go_ret
    exact ⟨rfl, HB2.out⟩
  have h2i : ¬ (es.length : Int) < 2 := by omega
  obtain ⟨-, hp0, b1, o1, rfl, h7⟩ := HX.out 0 (by omega)
  rw [Nat.zero_mul, Nat.add_zero] at h7
  have c0 := below_keeps HB2.out _ _ h7.1
  have HC0 := Lib.hid h7.1
  clear h7
  obtain ⟨p0, HP0⟩ : ∃ p, Hid (es[0].1.pos = p) := ⟨_, Lib.hid rfl⟩
  rw [HP0.out] at c0 hp0 HC0
  obtain ⟨hp01, hp02⟩ := hp0
  obtain ⟨pm, HPM⟩ : ∃ p, Hid (wrap64 (p0 - 1) = p) := ⟨_, Lib.hid rfl⟩
  have HPB : Hid (i64B pm) := Lib.hid (by rw [← HPM.out]; unfold i64B wrap64; omega)
  have hi0 : (0 : Int) < (es.length : Int) := by omega
  obtain ⟨f, HF⟩ : ∃ f, Hid (R.follows (ensOf es) pm 0 = f) := ⟨_, Lib.hid rfl⟩
  have C1 := Lib.hid (Follows_at es (.slice (some ⟨b1, o1, none⟩) es.length cv) pm 0 f w2 (readsR_below HV.out HB2.out) (by omega) HSM.out HPB.out HF)
  rw [← HPM.out] at C1
  go_wp2_with fail
  refine C1.out.mono ?_
  rintro x w3 ⟨rfl, hb3⟩
  have HB3 := Lib.hid (HB2.out.trans (hb3.mono HB2.out.size))
  clear hb3 C1 c0
  cases f
  · go_wp2
    go_ret
    exact ⟨rfl, HB3.out⟩
  have HFT := HF
  have hl2 : 2 ≤ (ensOf es).length := by rw [ensOf_len]; omega
  have HPE : Hid (p0 = pm + 1 ∧ 1 ≤ p0) := Lib.hid (by
    have h := R.follows_pos HF.out 0 (by omega)
    have hr := R.follows_right HF.out _ (List.getElem_mem (l := ensOf es) (n := 0) (by omega))
    have e1 : (ensOf es)[0] = es[0].1 := by simp
    rw [e1] at h hr
    rw [HP0.out] at h
    have := (R.right_iff.1 hr).1
    rw [HP0.out] at this
    exact ⟨by omega, this⟩)
  obtain ⟨hpe1, hpe2⟩ := HPE.out
  obtain rfl : pm = p0 - 1 := by omega
  clear hpe1 HPM
  have hmod : (0 : Int) < (es.length : Int) - 1 := by omega
  obtain ⟨ham1, ham2⟩ := tmod_bd at_ hmod
  obtain ⟨haa1, haa2⟩ := ab_bd at_ hmod
  obtain ⟨k, hkN⟩ : ∃ k : Nat, 1 + ab at_ ((es.length : Int) - 1) = ((k + 1 : Nat) : Int) := ⟨(ab at_ ((es.length : Int) - 1)).toNat, by omega⟩
  have hk : k + 1 < es.length := by omega
  have HKN := Lib.hid hkN; clear hkN haa1 haa2
  have hmne : ((es.length : Int) - 1 == 0) = false := beq_eq_false_iff_ne.2 (by omega)
  have hmne2 : ¬ (es.length : Int) - 1 = 0 := by omega
  go_wp2
  go_cut [7] (fun s wx => s = .int .i64 ((k + 1 : Nat) : Int) ∧ sQuiet w3 wx)
  case first =>
    go_quiet (fail)
    go_wp2
    go_meet
    exact ⟨int_eq HKN.out, _, rfl⟩
  case rest =>
  obtain ⟨rfl, nq, rfl⟩ := hcut
  clear hmod hmne hmne2 ham1 ham2 hat1 hat2 HKN
  obtain ⟨cu1, cu2, cu3, cu4⟩ := R.cuts (l := ensOf es) (k := k + 1) hl2 (by omega) (by rw [ensOf_len]; exact hk) HFT.out
  have e1 : ((ensOf es).take (k + 1)) = ensOf (es.take (k + 1)) := by simp [ensOf, List.map_take]
  have e2 : ((ensOf es).drop (k + 1)) = ensOf (es.drop (k + 1)) := by simp [ensOf, List.map_drop]
  have e3 : ((ensOf es).take (k + 1 - 1)) ++ ((ensOf es).drop (k + 1)) = ensOf (es.take k ++ es.drop (k + 1)) := by simp [ensOf, List.map_take, List.map_drop]
  have e4 : (ensOf es)[k + 1 - 1]'(by rw [ensOf_len]; omega) = es[k].1 := by simp
  rw [e1] at cu1
  rw [e2, e4] at cu2
  rw [e3] at cu3
  rw [show p0 - 1 + 1 = p0 by omega] at cu4
  obtain ⟨-, hpk, bk, ok, hbk, h7k⟩ := HX.out k (by omega)
  cases hbk
  obtain ⟨pk, HPK⟩ : ∃ p, Hid (es[k].1.pos = p) := ⟨_, Lib.hid rfl⟩
  obtain ⟨ek, HEK⟩ : ∃ p, Hid (es[k].1.epoch = p) := ⟨_, Lib.hid rfl⟩
  rw [HPK.out, HEK.out] at cu2
  have k0 := h7k.1
  have k1 := h7k.2.1
  rw [HPK.out] at k0 hpk
  rw [HEK.out] at k1
  have HF1 := Lib.hid cu1
  have HF2 := Lib.hid cu2
  have HF3 := Lib.hid cu3
  have HF4 := Lib.hid cu4
  have HPKB := Lib.hid hpk
  have HP0B : Hid (i64B p0) := Lib.hid ⟨by omega, by omega⟩
  have HBW : Hid (Below w.heap.size w (w3.drewN nq)) := Lib.hid (below_drewN HB3.out nq)
  have hCK : CK w b1 o1 p0 (o1 + k * 7) pk ek (w3.drewN nq) := ⟨below_keeps HBW.out _ _ HC0.out, below_keeps HBW.out _ _ k0, below_keeps HBW.out _ _ k1, HBW.out⟩
  generalize w3.drewN nq = W at HBW hCK ⊢
  clear e1 e2 e3 e4 cu1 cu2 cu3 cu4 h7k k0 k1 hpk HX HPK HEK HP0 HF HFT hl2 HPE
  have HTK : Hid (∀ w', Below w.heap.size w w' → ReadsR w' (.slice (some ⟨b1, o1, none⟩) (k + 1) cv) (es.take (k + 1))) := Lib.hid fun w' h => readsR_below (readsR_take HV.out (by omega)) h
  have hTl : (es.take (k + 1)).length ≤ 1000 := by rw [List.length_take]; omega
  have hDl : (es.drop (k + 1)).length ≤ 1000 := by rw [List.length_drop]; omega
  have HTS : Hid (∀ x ∈ es.take (k + 1), E.Small x.1.b) := Lib.hid fun x hx => HSM.out x (List.mem_of_mem_take hx)
  have HDS : Hid (∀ x ∈ es.drop (k + 1), E.Small x.1.b) := Lib.hid fun x hx => HSM.out x (List.mem_of_mem_drop hx)
  have hcvk : ¬ cv = k + 1 := by omega
  have hki : ((k : Int) + 1) ≤ (cv : Int) := by omega
  have hki2 : (k : Int) + 1 ≤ (es.length : Int) := by omega
  have h0k : (0 : Int) ≤ (k : Int) + 1 := by omega
  have hkt : ((k : Int) + 1).toNat = k + 1 := by omega
  have hkc : k + 1 ≤ cv := by omega
  have hwp : IntKind.i64.wrap (p0 - 1) = p0 - 1 := by simp [IntKind.wrap, IntKind.bits, IntKind.signed]; omega
  go_wp2
  go_region_held3 (fun w' => CK w b1 o1 p0 (o1 + k * 7) pk ek w')
    (first | assumption | exact CK_drew (by assumption) | exact CK_call (by assumption) (by assumption))
    (first
      | (go_at_call 20; with_reducible refine (Follows_at (es.take (k + 1)) _ (p0 - 1) 0 true _ (HTK.out _ (CK_bel (by assumption))) hTl HTS.out HPB.out HF1).mono ?_; rintro x w4 ⟨rfl, hb4⟩)
      | fail)
  rename_i hCK4
  have hk1 : (k : Int) < (es.length : Int) := by omega
  have hkk0 : (0 : Int) ≤ (k : Int) := by omega
  have hwk : IntKind.i64.wrap ((k : Int) + 1 - 1) = (k : Int) := by simp [IntKind.wrap, IntKind.bits, IntKind.signed]; omega
  have hwk2 : IntKind.i64.wrap (k : Int) = (k : Int) := by simp [IntKind.wrap, IntKind.bits, IntKind.signed]; omega
  have hks : (k : Int) + 1 - 1 = (k : Int) := by omega
  obtain ⟨n, hn⟩ : ∃ n, es.length - (k + 1) = n := ⟨_, rfl⟩
  have HDK : Hid (∀ w', Below w.heap.size w w' → ReadsR w' (.slice (some ⟨b1, o1 + (k + 1) * 7, none⟩) (es.length - (k + 1)) (cv - (k + 1))) (es.drop (k + 1))) := Lib.hid fun w' h => readsR_below (readsR_drop HV.out rfl (by omega) _ (fun _ => rfl) (fun h => by cases h)) h
  have HN := Lib.hid hn; clear hn
  have HC00 := HC0
  go_wp2
  go_region_held3 (fun w' => CK w b1 o1 p0 (o1 + k * 7) pk ek w')
    (first | assumption | exact CK_drew (by assumption) | exact CK_call (by assumption) (by assumption))
    (first
      | (go_at_call 20; with_reducible refine (Follows_at (es.drop (k + 1)) _ pk ek true _ (HDK.out _ (CK_bel (by assumption))) hDl HDS.out HPKB.out HF2).mono ?_; rintro x w5 ⟨rfl, hb5⟩)
      | fail)
  rename_i hCK5
  have HCK5 := Lib.hid hCK5
  clear hCK5 hCK4 hCK HBW HTK HTS HDS HF1 HF2
  have HB5 := Lib.hid (CK_bel HCK5.out)
  have own0 : Hid (∀ wq : World, wq.heap = (w5.alloc (.cells #[] 26)).heap → wq.ownsRow w5.heap.size 26 7 (.slice (some ⟨w5.heap.size, 0, none⟩) 0 0) 0 []) := Lib.hid fun wq h => by
    refine ⟨rfl, .inr ⟨w5.heap.size, 0, #[], rfl, Nat.le_refl _, ?_, Nat.le_refl _, by unfold maxLen; omega, rfl, rfl⟩⟩
    rw [h]; exact heap_alloc_new w5 _
  have bel0 : Hid (∀ wq : World, wq.heap = (w5.alloc (.cells #[] 26)).heap → ∀ p u, w.cell? p = some u → wq.cell? p = some u) := Lib.hid fun wq h p u hu => by
    have h1 := below_keeps (HB5.out.alloc HB5.out.size (.cells #[] 26)) p u hu
    exact cell_same h1 (by rw [h])
  have HL1 : Hid ((enCells (es.take k)).length = k * 7) := Lib.hid (by rw [enCells_len, List.length_take, Nat.min_eq_left (by omega)])
  have HL2 : Hid ((enCells (es.drop (k + 1))).length = (es.length - (k + 1)) * 7) := Lib.hid (by rw [enCells_len, List.length_drop])
  have HO1 : Hid (∀ u ∈ enCells (es.take k), u.oneCell' = true) := Lib.hid (enCells_one fun p hp => reads_forms HV.out p (List.mem_of_mem_take hp))
  have HO2 : Hid (∀ u ∈ enCells (es.drop (k + 1)), u.oneCell' = true) := Lib.hid (enCells_one fun p hp => reads_forms HV.out p (List.mem_of_mem_drop hp))
  have HN1 : Hid (∀ j u, (enCells (es.take k))[j]? = some u → w.cell? ((⟨b1, o1, none⟩ : Addr).add j) = some u) := Lib.hid (reads_cells (n := k) (by rw [List.length_take]; omega) (readsR_take HV.out (by omega)))
  have HN2 : Hid (∀ j u, (enCells (es.drop (k + 1)))[j]? = some u → w.cell? ((⟨b1, o1 + (k + 1) * 7, none⟩ : Addr).add j) = some u) := Lib.hid (reads_cells (by rw [List.length_drop]) (HDK.out w (Below.refl _ _)))
  have hsz5 := HB5.out.size
  have hkkc : (k : Int) ≤ (cv : Int) := by omega
  have HB6 : Hid (∀ (wq w6 : World), wq.grownBy w6 (some w5.heap.size) → wq.heap = (w5.alloc (.cells #[] 26)).heap → wq.os = w5.os → wq.tape = w5.tape → wq.output = w5.output → Below w.heap.size w w6 ∧ w5.heap.size ≤ w6.heap.size) := Lib.hid fun wq w6 hg h1 h2 h3 h4 => by
    have hb : Below w.heap.size w (w5.alloc (.cells #[] 26)) := HB5.out.alloc HB5.out.size _
    have hb2 : Below w.heap.size w wq := ⟨h2.trans HB5.out.os, h3.trans HB5.out.tape, h4.trans HB5.out.output, by rw [h1]; exact hb.size, fun j hj => by rw [h1]; exact hb.block j hj⟩
    have hs : wq.heap.size = w5.heap.size + 1 := by rw [h1]; simp
    exact ⟨hb2.grown hg (by omega) (fun b hb => by cases hb; exact hsz5), by have := hg.size; omega⟩
  go_wp2
  go_region_law
    (first
      | (refine step_append_own (by rfl) (.tmp 74) (.tmp 78) 27 (by rfl) w5.heap.size 26 i0 _ 7 80 Try.underlying27 hi hz0 hz1 hz2 rfl (by decide) _ 0 [] (by rfl) (own0.out _ rfl) ⟨b1, o1, none⟩ k cv (enCells (es.take k)) (by rfl) HL1.out (fun j u hj => bel0.out _ rfl _ _ (HN1.out j u hj)) HO1.out (by unfold maxLen; omega) (by omega) (by simp) ?_; intro v6 w6 hown6 hgrow6 _; obtain ⟨hb6, hs6⟩ := HB6.out _ w6 hgrow6 rfl rfl rfl rfl)
      | (refine step_append_own (by rfl) (.tmp 79) (.tmp 82) 27 (by rfl) w5.heap.size 26 i0 _ 7 80 Try.underlying27 hi hz0 hz1 hz2 rfl (by decide) _ _ _ (by rfl) hown6 ⟨b1, o1 + (k + 1) * 7, none⟩ (es.length - (k + 1)) (cv - (k + 1)) (enCells (es.drop (k + 1))) (by rfl) HL2.out (fun j u hj => below_keeps hb6 _ _ (HN2.out j u hj)) HO2.out (by unfold maxLen; omega) (by omega) (by omega) ?_; intro v7 w7 hown7 hgrow7 _))
  all_goals
    have HC0 : Hid (w7.cell? ⟨b1, o1, none⟩ = some (.int .i64 p0) ∧ Below w.heap.size w w7 ∧ ReadsR w7 v7 (es.take k ++ es.drop (k + 1))) := Lib.hid (by
      have hb7 : Below w.heap.size w w7 := hb6.grown hgrow7 (by omega) (fun b hb => by have := (hown6.lt b hb).1; omega)
      have hl7 : (es.take k ++ es.drop (k + 1)).length = 0 + k + (es.length - (k + 1)) := by rw [List.length_append, List.length_take, List.length_drop]; omega
      refine ⟨?_, hb7, readsR_own (base := w5.heap.size) ?_ fun p hp => ?_⟩
      · exact below_keeps hb7 _ _ HC00.out
      · have h8 := hown7
        rw [List.nil_append, ← enCells_append, ← hl7] at h8
        exact h8
      · have hr := readsR_below HV.out hb7
        obtain ⟨_, _, _, _, _, hx⟩ := hr
        have hpm : p ∈ es := by
          rcases List.mem_append.1 hp with h | h
          · exact List.mem_of_mem_take h
          · exact List.mem_of_mem_drop h
        obtain ⟨j, hj, rfl⟩ := List.mem_iff_getElem.1 hpm
        exact ⟨(hx j hj).1, (hx j hj).2.1⟩)
    have hc7 := HC0.out.1
    have HW7 := Lib.hid HC0.out.2.1
    have HR7 := Lib.hid HC0.out.2.2
    have hCl : (es.take k ++ es.drop (k + 1)).length ≤ 1000 := by rw [List.length_append, List.length_take, List.length_drop]; omega
    have HCS : Hid (∀ x ∈ es.take k ++ es.drop (k + 1), E.Small x.1.b) := Lib.hid fun x hx => by
      rcases List.mem_append.1 hx with h | h
      · exact HSM.out x (List.mem_of_mem_take h)
      · exact HSM.out x (List.mem_of_mem_drop h)
    clear HC0 hown6 hgrow6 hown7 hgrow7 hb6 hs6 own0 bel0 HB6 HN1 HN2 HO1 HO2 HL1 HL2
    go_wp2_with fail
    refine (Follows_at (es.take k ++ es.drop (k + 1)) _ (p0 - 1) 0 false w7 HR7.out hCl HCS.out HPB.out HF3).mono ?_
    rintro x w8 ⟨rfl, hb8⟩
    have HB8 := Lib.hid (HW7.out.trans (hb8.mono HW7.out.size))
    have hc8 := below_keeps hb8 _ _ hc7
    clear hb8 hc7
    go_wp2_with fail
    refine (Follows_at es _ p0 0 false w8 (readsR_below HV.out HB8.out) (by omega) HSM.out HP0B.out HF4).mono ?_
    rintro x w9 ⟨rfl, hb9⟩
    have HB9 := Lib.hid (HB8.out.trans (hb9.mono HB8.out.size))
    clear hb9 hc8
    go_wp2
    go_ret
    exact ⟨rfl, HB9.out⟩

set_option maxRecDepth 100000 in
theorem recordCuts_lifted (os : Os) (started : os.Started) (H : Type) (enc : TypeId × Value → H) :
    ReturnsInHanded {} Try.checked os 8 .any (Rows.recordCutsSpec.pre6 enc Try.prog Try.f8 Rows.recordCutsRow.domain false) (Rows.recordCutsSpec.post enc Try.prog Try.f8 false true false false) := by
  refine returnsInHanded_of_change (C := Try.checked) recordCuts_own started (by kernel_rfl) Try.func8
    (ChangeSpec.witness6 (enc := enc) (C := Try.checked) false ⟨#[], #[.slice none 0 0, .int .i64 0], []⟩ 8 (by kernel_rfl) (by kernel_rfl) (by kernel_rfl) (by kernel_rfl)) ?_
  intro W base args ds gs before hval0 hW _ _
  have hval : ∀ (j : Nat) t v, Try.f8.params[j]? = some t → args[j]? = some v → Value.okWide Try.prog W .any base t v := hval0
  have hW' := hW
  obtain ⟨p, q, hA0, hV, rfl, hfz, hnd⟩ := hW
  have hA : DataW.TrodAll enc Try.prog W 0 (fun _ => true) true Try.f8.params.toList args.toList ds p := hA0
  rw [Try.params8] at hA hval
  obtain ⟨v0, vs0, d0, ds0, p0, q0, hargs, rfl, rfl, h0, r0⟩ := trodAll_cons hA
  obtain ⟨v1, vs1, d1, ds1, p1, q1, rfl, rfl, rfl, h1, r1⟩ := trodAll_cons r0
  obtain ⟨rfl, rfl, rfl⟩ := trodAll_nil r1
  obtain rfl : args = #[v0, v1] := by cases args; simp_all
  obtain ⟨rfl, rfl⟩ := trodVars_none hV
  have k0 := h0
  have lt0 : ∀ x ∈ p0, x.block < W.heap.size := by obtain ⟨m, hm⟩ := k0; exact DataW.trod_lt m _ _ _ hm
  obtain ⟨es0, w0⟩ := arg_entries Try.enTy Try.underlying27 (hval 0 27 v0 rfl rfl) h0
  obtain ⟨a1, rfl, rfl, rfl, w1⟩ := open_int Try.underlying3 (hval 1 3 v1 rfl rfl) h1
  clear hA0 hval0
  refine (recordCuts_walk es0 _ a1 w1 W w0).mono fun e W' ⟨he, bel⟩ => ?_
  subst he
  exact ⟨_, rfl, _, _, _, [], _, [], hW', trodAll_mk1 (shut_bool Try.underlying4 _), (trodAll_cons_mk (Below.trod recordCuts_laid (by kernel_rfl) (of_decide_eq_true (by kernel_rfl)) k0 bel lt0) (trodAll_cons_mk (shut_int Try.underlying3 w1) trodAll_mk0)), rfl, bel.frame _, fun h => by cases h⟩

theorem recordCuts_holds : Rows.RecordCutsSaid :=
  OpenClaim.holds_of_wide 8 Try.f8 rfl rfl rfl rfl rfl rfl rfl ⟨rfl, rfl, rfl, rfl, rfl⟩ rfl rfl rfl rfl rfl (by kernel_rfl) Try.func8 (by kernel_rfl)
    (of_decide_eq_true (by kernel_rfl)) (by unfold Func.isWrapper; first | (rw [if_pos (by decide +kernel)]; kernel_rfl) | (rw [if_neg (by decide +kernel)]; exact ⟨rfl, rfl⟩))
    (fun os started H enc _ => recordCuts_lifted os started H enc)
#print axioms recordCuts_holds

end Go.Proofs.Ytfhopgficckjkaa
