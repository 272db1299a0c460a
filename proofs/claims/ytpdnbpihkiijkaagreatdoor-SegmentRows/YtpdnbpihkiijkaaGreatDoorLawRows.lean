/-
  The walk of the law SegmentRows over any segment package that keeps its contracts.
-/
import Derived.Test.YtpdnbpihkiijkaaGreatDoorBun29
namespace Go.Proofs.YtpdnbpihkiijkaaGreatDoor.G
open Go.RowKit
open D (dP)
attribute [local go_sem] ext_Bd ext_Bl ext_Bt toList_B add_B size_B get_Bt

abbrev nm7 : Tx := [115, 101, 103, 45, 55]
theorem name7n : nameS ((7 : Nat) : Int) = nm7 := name7
theorem rows_create {n : Nat} (h1 : 1 ≤ n) (h2 : n ≤ far) : createD room20 (nameS ((7 : Nat) : Int)) (n : Int) [] = (0, [full (nameS ((7 : Nat) : Int)) (segB n [])]) :=
  create_one (by omega) (by omega) h1 h2 (seg_fits h2 (fun _ h => by cases h) (by simp))
theorem rows_add {n : Nat} {a b : List R.En} (h1 : 1 ≤ n) (h2 : n ≤ far) (hw : R.follows (a ++ b) ((n : Int) - 1) 0 = true) (hl : (a ++ b).length ≤ 40) : addD room20 (nameS ((7 : Nat) : Int)) b [full (nameS ((7 : Nat) : Int)) (segB n a)] = (0, [full (nameS ((7 : Nat) : Int)) (segB n (a ++ b))]) :=
  add_one (by omega) (by omega) h1 h2 hw (seg_fits h2 (follows_all hw) hl)
theorem rows_gap {n : Nat} {b : List R.En} (h1 : 1 ≤ n) (h2 : n ≤ far) (hw : R.follows b ((n : Int) - 1) 0 = false) : addD room20 (nameS ((7 : Nat) : Int)) b [full (nameS ((7 : Nat) : Int)) (segB n [])] = (11, [full (nameS ((7 : Nat) : Int)) (segB n [])]) :=
  gap_one (es0 := []) h1 h2 rfl hw
theorem rows_read (s : Tx) : D.read nm7 [full (nameS ((7 : Nat) : Int)) s] = (s, 0) := by
  rw [name7n]
  unfold D.read
  rw [find_one]
  rfl
theorem rows_synced (s : Tx) : D.synced nm7 [full (nameS ((7 : Nat) : Int)) s] = s.length := by
  rw [name7n]
  unfold D.synced
  rw [find_one]
  rfl
/-- Two disks, side by side: the second is at work. -/
structure RowsAt (C : D.DC) (w0 : World) (p q ga gb bsb : Nat) (la : List D.F) (Sa : Nat → Prop) (wr : World) (lb : List D.F) (Tb : Nat → Prop) : Prop where
  a : C.At w0.heap.size wr p room20 la Sa
  b : C.At bsb wr q room20 lb Tb
  dis : ∀ k, Tb k → ¬ Sa k
  pa : wr.cell? ⟨ga, 0, none⟩ = some (dP p)
  pb : wr.cell? ⟨gb, 0, none⟩ = some (dP q)
  na : ¬ Tb ga
  nb : ¬ Tb gb
  bel : Below w0.heap.size w0 wr
  lo : ∀ k, Tb k → w0.heap.size ≤ k
theorem RowsAt.next {C : D.DC} {w0 : World} {p q ga gb bsb : Nat} {la : List D.F} {Sa : Nat → Prop} {wr w' : World} {lb l2 : List D.F} {Tb T2 : Nat → Prop} (h : RowsAt C w0 p q ga gb bsb la Sa wr lb Tb) (hd : C.At bsb w' q room20 l2 T2) (hg : D.Grow Tb wr T2) (hb : D.But Tb wr w') : RowsAt C w0 p q ga gb bsb la Sa w' l2 T2 :=
  ⟨C.but h.a hb fun k h1 h2 => h.dis k h2 h1, hd, fun k h1 h2 => by
    rcases hg k h1 with h3 | h3
    · exact h.dis k h3 h2
    · have := (C.low h.a h2).2
      omega, cell_but h.pa hb h.na, cell_but h.pb hb h.nb, fun h1 => by
    rcases hg ga h1 with h3 | h3
    · exact h.na h3
    · have := World.block_lt_of_cell? _ _ h.pa
      dsimp only at this
      omega, fun h1 => by
    rcases hg gb h1 with h3 | h3
    · exact h.nb h3
    · have := World.block_lt_of_cell? _ _ h.pb
      dsimp only at this
      omega, but_low h.bel hb h.lo, fun k h1 => by
    rcases hg k h1 with h3 | h3
    · exact h.lo k h3
    · have := h.bel.size
      omega⟩
theorem RowsAt.below {C : D.DC} {w0 : World} {p q ga gb bsb : Nat} {la : List D.F} {Sa : Nat → Prop} {wr w' : World} {lb : List D.F} {Tb : Nat → Prop} (h : RowsAt C w0 p q ga gb bsb la Sa wr lb Tb) (hb : Below wr.heap.size wr w') : RowsAt C w0 p q ga gb bsb la Sa w' lb Tb :=
  h.next (C.below h.b hb) (fun _ h => .inl h) (D.But.of_below hb)
theorem RowsAt.drew {C : D.DC} {w0 : World} {p q ga gb bsb : Nat} {la : List D.F} {Sa : Nat → Prop} {wr : World} {lb : List D.F} {Tb : Nat → Prop} (h : RowsAt C w0 p q ga gb bsb la Sa wr lb Tb) : RowsAt C w0 p q ga gb bsb la Sa wr.drew lb Tb :=
  ⟨C.keep (w' := wr.drew) h.a (Nat.le_refl _) (fun _ _ => rfl), C.keep (w' := wr.drew) h.b (Nat.le_refl _) (fun _ _ => rfl), h.dis, h.pa, h.pb, h.na, h.nb, ⟨h.bel.os, h.bel.tape, h.bel.output, h.bel.size, h.bel.block⟩, h.lo⟩
set_option maxHeartbeats 8000000 in
set_option maxRecDepth 100000 in
theorem rows_walk {C : D.DC} (Z : SC C) (es : List EV) (va : Value) (at9 : Int) (w : World) (hat : i64B at9) (hA : ReadsR w va es) :
    Calls Tryz.prog 7 #[va, .int .i64 at9] w fun x w' => x = .returned (.bool true) ∧ Below w.heap.size w w' := by
  have HV := Lib.hid hA
  have HAT := Lib.hid hat
  clear hat
  obtain ⟨aa, cap, hva, hle, hnone, hx0⟩ := hA
  subst hva
  have HX0 := Lib.hid hx0
  clear hx0
  obtain ⟨k, HKK⟩ : ∃ k, Hid (pickN at9 (es.length + 1) = k) := ⟨_, Lib.hid rfl⟩
  have hk : k ≤ es.length := by
    have := pickN_lt at9 (n := es.length + 1) (by omega)
    rw [HKK.out] at this
    omega
  go_enter Tryz.func7, Tryz.ntmps7
  go_wp2_with fail
  refine (shown9_l Z w).mono ?_
  rintro x w1 ⟨rfl, hb1⟩
  have HB1 := Lib.hid hb1
  clear hb1
  go_wp2_with fail
  refine (fits9_l es _ w1 (readsR_below HV.out HB1.out)).mono ?_
  rintro x w2 ⟨hok, hb2⟩
  have HB2 := Lib.hid (HB1.out.trans (hb2.mono HB1.out.size))
  have HOK : Hid (x = .returned (.bool true) → LightAll es) := Lib.hid fun h => by
    rcases hok with h1 | ⟨-, h2⟩
    · rw [h] at h1; cases h1
    · exact h2
  obtain ⟨ok, rfl⟩ : ∃ ok, x = .returned (.bool ok) := by rcases hok with h | ⟨h, -⟩ <;> exact ⟨_, h⟩
  clear hok hb2 HB1
  go_wp2_with fail
  refine (begun9_l C (bs := w.heap.size) 1048576 w2 HB2.out.size (by omega) (by omega)).mono ?_
  rintro x w3 ⟨⟨p, m, S, rfl, hd, -, -, -⟩, hb3⟩
  have HD3 := Lib.hid hd
  have HB3 := Lib.hid (HB2.out.trans (hb3.mono HB2.out.size))
  clear hd hb3 HB2
  go_wp2_with fail
  have hal3 : Below w3.heap.size w3 (w3.alloc (.cells #[dP p, .pointer (some ⟨m, 0, none⟩)] 28)) := (Below.refl _ _).alloc (Nat.le_refl _) _
  have hnew3 := heap_alloc_new w3 (.cells #[dP p, .pointer (some ⟨m, 0, none⟩)] 28)
  have hp4 : (w3.alloc (.cells #[dP p, .pointer (some ⟨m, 0, none⟩)] 28)).cell? ⟨w3.heap.size, 0, none⟩ = some (dP p) := by rw [blk9 hnew3]; rfl
  have HD4 := Lib.hid (C.below HD3.out hal3)
  have HB4 := Lib.hid (HB3.out.trans (hal3.mono HB3.out.size))
  have HN4 : Hid (¬ S w3.heap.size) := Lib.hid fun h => by have := (C.low HD3.out h).2; omega
  clear hal3 hnew3 HD3 HB3
  generalize w3.alloc (.cells #[dP p, .pointer (some ⟨m, 0, none⟩)] 28) = w4 at *
  generalize w3.heap.size = ga at *
  refine (begun9_l C (bs := w4.heap.size) 1048576 w4 (Nat.le_refl _) (by omega) (by omega)).mono ?_
  rintro x w5 ⟨⟨q, m2, T, rfl, hd, -, -, -⟩, hb5⟩
  have HE5 := Lib.hid hd
  have HD5 := Lib.hid (C.below HD4.out hb5)
  have HB5 := Lib.hid (HB4.out.trans (hb5.mono HB4.out.size))
  have hp5 := below_keeps hb5 _ _ hp4
  have HTS : Hid (∀ k, T k → ¬ S k) := Lib.hid fun k h1 h2 => by
    have h3 := (C.low HD4.out h2).2
    have h4 := (C.low HE5.out h1).1
    omega
  have HTA : Hid (¬ T ga) := Lib.hid fun h => by
    have h3 := World.block_lt_of_cell? w4 _ hp4
    have h4 := (C.low HE5.out h).1
    dsimp only at h3
    omega
  have HT0 : Hid (∀ k, T k → w.heap.size ≤ k) := Lib.hid fun k h => Nat.le_trans HB4.out.size (C.low HE5.out h).1
  clear hd hb5 hp4 HD4 HB4
  have hal : Below w5.heap.size w5 (w5.alloc (.cells #[dP q, .pointer (some ⟨m2, 0, none⟩)] 28)) := (Below.refl _ _).alloc (Nat.le_refl _) _
  have hnew := heap_alloc_new w5 (.cells #[dP q, .pointer (some ⟨m2, 0, none⟩)] 28)
  have hq6 : (w5.alloc (.cells #[dP q, .pointer (some ⟨m2, 0, none⟩)] 28)).cell? ⟨w5.heap.size, 0, none⟩ = some (dP q) := by rw [blk9 hnew]; rfl
  have hp6 := below_keeps hal _ _ hp5
  have HD6 := Lib.hid (C.below HD5.out hal)
  have HE6 := Lib.hid (C.below HE5.out hal)
  have HB6 := Lib.hid (HB5.out.trans (hal.mono HB5.out.size))
  have HNB : Hid (¬ S w5.heap.size) := Lib.hid fun h => by have := (C.low HD5.out h).2; omega
  have HTB : Hid (¬ T w5.heap.size) := Lib.hid fun h => by have := (C.low HE5.out h).2; omega
  have HZ6 : Hid (w5.heap.size < (w5.alloc (.cells #[dP q, .pointer (some ⟨m2, 0, none⟩)] 28)).heap.size) := Lib.hid (by simp)
  cases ok
  · go_wp2
    go_ret
    exact ⟨rfl, HB6.out⟩
  have HLI := Lib.hid (HOK.out rfl)
  have h40 : es.length ≤ 40 := HLI.out.1
  clear HOK hal hnew hp5 HD5 HE5 HB5
  go_upto_if 51 with (fail)
  generalize w5.alloc (.cells #[dP q, .pointer (some ⟨m2, 0, none⟩)] 28) = w6 at *
  generalize w5.heap.size = gb at *
  obtain ⟨f, HF⟩ : ∃ f, Hid (f = firstZ (ensOf es)) := ⟨_, Lib.hid rfl⟩
  have hfb : i64B f := by
    rw [HF.out]
    cases es with
    | nil => exact ⟨by decide, by decide⟩
    | cons e l => exact (HX0.out 0 (by simp)).2.1
  go_cut [11] (fun x wx => x = .int .i64 f ∧ w6 = wx)
  case first =>
    by_cases h0 : es.length = 0
    · have hz : es = [] := List.eq_nil_of_length_eq_zero h0
      have hf1 : f = 1 := by rw [HF.out, hz]; rfl
      have h0i : ¬ (0 : Int) < (es.length : Int) := by omega
      clear hz h0
      go_wp2
      go_meet
      exact ⟨int_eq hf1.symm, rfl⟩
    · have h0i : (0 : Int) < (es.length : Int) := by omega
      obtain ⟨-, -, b, off, hab, h7⟩ := HX0.out 0 (by omega)
      subst hab
      have hf1 : f = (es[0]'(by omega)).1.pos := by
        rw [HF.out]
        cases es with
        | nil => exact absurd rfl h0
        | cons e l => rfl
      have z0 := below_keeps HB6.out _ _ h7.1
      rw [Nat.zero_mul, Nat.add_zero, ← hf1] at z0
      clear h7 hf1
      go_wp2
      go_meet
      exact ⟨rfl, rfl⟩
  case rest =>
  obtain ⟨rfl, rfl⟩ := hcut
  have HPK := Lib.hid (pick9_l at9 (es.length + 1) k w6 HAT.out (by omega) (by omega) HKK)
  rw [show ((es.length + 1 : Nat) : Int) = (es.length : Int) + 1 by omega] at HPK
  go_wp2_with fail
  refine HPK.out.mono ?_
  rintro x w6x ⟨rfl, rfl⟩
  clear HPK HKK
  have HRA : Hid (∀ w', Below w.heap.size w w' → ReadsR w' (.slice aa es.length cap) es) := Lib.hid fun w' h => readsR_below HV.out h
  by_cases hfr : ¬ (1 ≤ f ∧ f ≤ 274877906944)
  · go_wp2_with fail
    refine (Z.create 7 f 1 _ HD6.out (D.inv_nil _) (by omega) Named.nil (by omega) (by omega) hfb (create_arg (by unfold far; omega))).mono ?_
    rintro x w7 ⟨rfl, -, hb7⟩
    have HB7 : Hid (Below w.heap.size w w7) := Lib.hid (but_low HB6.out hb7 fun k hk => (C.low HD6.out hk).1)
    clear hb7
    go_wp2
    go_ret
    exact ⟨rfl, HB7.out⟩
  obtain ⟨n, HFN⟩ : ∃ n : Nat, Hid (f = (n : Int) ∧ 1 ≤ n ∧ n ≤ far) := ⟨f.toNat, Lib.hid ⟨by omega, by omega, by unfold far; omega⟩⟩
  have hn1 := HFN.out.2.1
  have hn2 := HFN.out.2.2
  have hfn := HFN.out.1
  clear hfr
  have HCR := Lib.hid (rows_create hn1 hn2)
  rw [← hfn] at HCR
  clear hfn
  have HSM := Lib.hid (light_of HLI.out)
  go_wp2_with fail
  refine (Z.create 7 f 0 _ HD6.out (D.inv_nil _) (by omega) Named.nil (by omega) (by omega) hfb HCR.out).mono ?_
  rintro x w7 ⟨rfl, ⟨S7, hd7, hg7⟩, hb7⟩
  have HD7 := Lib.hid hd7
  have hp7 := cell_but hp6 hb7 HN4.out
  have hq7 := cell_but hq6 hb7 HNB.out
  have HE7 := Lib.hid (C.but HE6.out hb7 HTS.out)
  have HB7 : Hid (Below w.heap.size w w7) := Lib.hid (but_low HB6.out hb7 fun k hk => (C.low HD6.out hk).1)
  have HTS7 : Hid (∀ k, T k → ¬ S7 k) := Lib.hid fun k h1 h2 => by
    rcases hg7 k h2 with h | h
    · exact HTS.out k h1 h
    · have := (C.low HE6.out h1).2
      omega
  have HN7 : Hid (¬ S7 ga) := Lib.hid fun h => by
    rcases hg7 ga h with h | h
    · exact HN4.out h
    · have := World.block_lt_of_cell? _ _ hp6
      dsimp only at this
      omega
  have HNB7 : Hid (¬ S7 gb) := Lib.hid fun h => by
    rcases hg7 gb h with h | h
    · exact HNB.out h
    · have := HZ6.out
      omega
  have HI7 := Lib.hid (inv_seg (nm := nameS ((7 : Nat) : Int)) (n := n) (es := []) hn2 (fun _ h => by cases h) (by simp))
  clear hd7 hg7 hb7 hp6 hq6 HD6 HE6 HB6 HTS HN4 HNB HZ6
  have HR7 : Hid (∀ w', D.But S7 w7 w' → ReadsR w' (.slice aa es.length cap) es) := Lib.hid fun w' hb => HRA.out _ (but_low HB7.out hb fun k hk => (C.low HD7.out hk).1)
  by_cases hfo : R.follows (ensOf es) ((n : Int) - 1) 0 = true
  case neg =>
    have HG := Lib.hid (rows_gap hn1 hn2 (by simpa using hfo))
    clear hfo
    go_wp2_with fail
    refine (Z.add 7 es _ 11 _ HD7.out HI7.out (by omega) (named_one (by omega) (by omega) _) (by omega) (by omega) HR7.out (by omega) HSM.out HG.out).mono ?_
    rintro x w8 ⟨rfl, -, hb8⟩
    have HB8 : Hid (Below w.heap.size w w8) := Lib.hid (but_low HB7.out hb8 fun k hk => (C.low HD7.out hk).1)
    clear hb8
    go_wp2
    go_ret
    exact ⟨rfl, HB8.out⟩
  have HFO := Lib.hid hfo
  clear hfo
  have HAD := Lib.hid (rows_add (a := []) hn1 hn2 HFO.out (by rw [List.nil_append, ensOf_len]; exact h40))
  rw [List.nil_append] at HAD
  go_wp2_with fail
  refine (Z.add 7 es _ 0 _ HD7.out HI7.out (by omega) (named_one (by omega) (by omega) _) (by omega) (by omega) HR7.out (by omega) HSM.out HAD.out).mono ?_
  rintro x w8 ⟨rfl, ⟨S8, hd8, hg8⟩, hb8⟩
  have HD8 := Lib.hid hd8
  have hp8 := cell_but hp7 hb8 HN7.out
  have hq8 := cell_but hq7 hb8 HNB7.out
  have HE8 := Lib.hid (C.but HE7.out hb8 HTS7.out)
  have HB8 : Hid (Below w.heap.size w w8) := Lib.hid (but_low HB7.out hb8 fun k hk => (C.low HD7.out hk).1)
  have HTS8 : Hid (∀ k, T k → ¬ S8 k) := Lib.hid fun k h1 h2 => by
    rcases hg8 k h2 with h | h
    · exact HTS7.out k h1 h
    · have := (C.low HE7.out h1).2
      omega
  have HI8 := Lib.hid (inv_seg (nm := nameS ((7 : Nat) : Int)) hn2 (follows_all HFO.out) (by rw [ensOf_len]; exact h40))
  clear hd8 hg8 hb8 hp7 hq7 HD7 HE7 HB7 HTS7 HN7 HNB7 HR7 HAD
  have HS8 := Lib.hid (RowsAt.drew ⟨HD8.out, HE8.out, HTS8.out, hp8, hq8, HTA.out, HTB.out, HB8.out, HT0.out⟩)
  clear HD8 HE8 HTS8 HTA HTB HB8 HT0 hp8
  obtain ⟨A, HAE⟩ : ∃ A, Hid (ensOf (es.take k) = A) := ⟨_, Lib.hid rfl⟩
  obtain ⟨D2, HDE⟩ : ∃ D2, Hid (ensOf (es.drop k) = D2) := ⟨_, Lib.hid rfl⟩
  have HAD : Hid (A ++ D2 = ensOf es) := Lib.hid (by rw [← HAE.out, ← HDE.out, ← List.map_append, List.take_append_drop])
  have HFA : Hid (R.follows A ((n : Int) - 1) 0 = true) := Lib.hid (by
    have := HFO.out
    rw [← HAD.out] at this
    exact ((R.follows_append A D2 ((n : Int) - 1) 0).1 this).1)
  have HAL : Hid (A.length ≤ 40) := Lib.hid (by rw [← HAE.out, ensOf_len, List.length_take]; omega)
  have HT1 := Lib.hid (rows_add (a := []) hn1 hn2 HFA.out (by rw [List.nil_append]; exact HAL.out))
  have HT2 := Lib.hid (rows_add (a := A) (b := []) hn1 hn2 (by rw [List.append_nil]; exact HFA.out) (by rw [List.append_nil]; exact HAL.out))
  have HT3 := Lib.hid (rows_add (a := A) (b := D2) hn1 hn2 (by rw [HAD.out]; exact HFO.out) (by rw [HAD.out, ensOf_len]; exact h40))
  rw [List.nil_append] at HT1
  rw [List.append_nil] at HT2
  rw [HAD.out] at HT3
  generalize segB n (ensOf es) = sb at *
  have HRB := Lib.hid (rows_read sb)
  have HYB := Lib.hid (rows_synced sb)
  have HIA := Lib.hid (inv_seg (nm := nameS ((7 : Nat) : Int)) hn2 (follows_all HFA.out) HAL.out)
  have hkc : (k : Int) ≤ (cap : Int) := by omega
  have hkl : (k : Int) ≤ (es.length : Int) := by omega
  have hlc : (es.length : Int) ≤ (cap : Int) := by omega
  go_upto_region 13 with (fail)
  refine wp_region_held_drew (S := fun w' => w'.cell? ⟨gb, 0, none⟩ = some (dP q)) (by kernel_rfl) ?_ (fun hHeld => ?_)
  · exact hq8
  generalize w8.drew = w9 at *
  refine take_wanted (i := 0) (v := ?_) rfl (by kernel_rfl) (by kernel_rfl) (by kernel_rfl) (fun _ _ _ h => h) (by rfl) ?_ (by assumption) ?_
  rotate_left
  · intro w hSw
    (try dsimp only at hSw)
    go_simp
    (try with_reducible rfl)
  simp only [Act.put, List.setIfInBounds_toArray, List.set_cons_zero, List.set_cons_succ]
  refine take_wanted (i := 1) (v := ?_) rfl (by kernel_rfl) (by kernel_rfl) (by kernel_rfl) (fun _ _ _ h => h) (by rfl) ?_ (by assumption) ?_
  rotate_left
  · intro w hSw
    (try dsimp only at hSw)
    go_simp
    (try with_reducible rfl)
  simp only [Act.put, List.setIfInBounds_toArray, List.set_cons_zero, List.set_cons_succ]
  refine take_wanted (i := 2) (v := ?_) rfl (by kernel_rfl) (by kernel_rfl) (by kernel_rfl) (fun _ _ _ h => h) (by rfl) ?_ (by assumption) ?_
  rotate_left
  · intro w hSw
    (try dsimp only at hSw)
    go_simp
    (try with_reducible rfl)
  simp only [Act.put, List.setIfInBounds_toArray, List.set_cons_zero, List.set_cons_succ]
  refine take_only (i := 3) (by kernel_rfl) rfl (by rfl) (fun K hK => ?_)
  go_simp
  go_at_call 23
  refine (Z.create 7 f 0 _ HS8.out.b (D.inv_nil _) (by decide) Named.nil (by omega) (by omega) hfb HCR.out).mono ?_
  rintro x w10 ⟨rfl, ⟨S10, hd10, hg10⟩, hb10⟩
  refine hK.out _ _ ?_ (fun hHeld => ?_)
  · exact (HS8.out.next hd10 hg10 hb10).pb
  clear hK K
  have HS10 := Lib.hid (HS8.out.next hd10 hg10 hb10)
  clear hd10 hg10 hb10 HS8 hq8
  refine take_wanted (i := 4) (v := ?_) rfl (by kernel_rfl) (by kernel_rfl) (by kernel_rfl) (fun _ _ _ h => h) (by rfl) ?_ (by assumption) ?_
  rotate_left
  · intro w hSw
    (try dsimp only at hSw)
    go_simp
    (try with_reducible rfl)
  simp only [Act.put, List.setIfInBounds_toArray, List.set_cons_zero, List.set_cons_succ]
  refine take_wanted (i := 5) (v := ?_) rfl (by kernel_rfl) (by kernel_rfl) (by kernel_rfl) (fun _ _ _ h => h) (by rfl) ?_ (by assumption) ?_
  rotate_left
  · intro w hSw
    (try dsimp only at hSw)
    go_simp
    (try with_reducible rfl)
  simp only [Act.put, List.setIfInBounds_toArray, List.set_cons_zero, List.set_cons_succ]
  refine take_wanted (i := 6) (v := ?_) rfl (by kernel_rfl) (by kernel_rfl) (by kernel_rfl) (fun _ _ _ h => h) (by rfl) ?_ (by assumption) ?_
  rotate_left
  · intro w hSw
    (try dsimp only at hSw)
    go_simp
    (try with_reducible rfl)
  simp only [Act.put, List.setIfInBounds_toArray, List.set_cons_zero, List.set_cons_succ]
  refine take_wanted (i := 7) (v := ?_) rfl (by kernel_rfl) (by kernel_rfl) (by kernel_rfl) (fun _ _ _ h => h) (by rfl) ?_ (by assumption) ?_
  rotate_left
  · intro w hSw
    (try dsimp only at hSw)
    go_simp
    (try with_reducible rfl)
  simp only [Act.put, List.setIfInBounds_toArray, List.set_cons_zero, List.set_cons_succ]
  refine take_wanted (i := 8) (v := ?_) rfl (by kernel_rfl) (by kernel_rfl) (by kernel_rfl) (fun _ _ _ h => h) (by rfl) ?_ (by assumption) ?_
  rotate_left
  · intro w hSw
    (try dsimp only at hSw)
    go_simp
    (try with_reducible rfl)
  simp only [Act.put, List.setIfInBounds_toArray, List.set_cons_zero, List.set_cons_succ]
  refine take_wanted (i := 9) (v := ?_) rfl (by kernel_rfl) (by kernel_rfl) (by kernel_rfl) (fun _ _ _ h => h) (by rfl) ?_ (by assumption) ?_
  rotate_left
  · intro w hSw
    (try dsimp only at hSw)
    go_simp
    (try with_reducible rfl)
  simp only [Act.put, List.setIfInBounds_toArray, List.set_cons_zero, List.set_cons_succ]
  refine take_wanted (i := 10) (v := ?_) rfl (by kernel_rfl) (by kernel_rfl) (by kernel_rfl) (fun _ _ _ h => h) (by rfl) ?_ (by assumption) ?_
  rotate_left
  · intro w hSw
    (try dsimp only at hSw)
    go_simp
    (try with_reducible rfl)
  simp only [Act.put, List.setIfInBounds_toArray, List.set_cons_zero, List.set_cons_succ]
  have HTK : Hid (∀ w', D.But S10 w10 w' → ReadsR w' (.slice aa k cap) (es.take k)) := Lib.hid fun w' hb => readsR_take (HRA.out _ (but_low HS10.out.bel hb HS10.out.lo)) hk
  have HSK : Hid (∀ x ∈ es.take k, E.Small x.1.b) := Lib.hid fun x hx => HSM.out x (List.mem_of_mem_take hx)
  have hl1 : (es.take k).length ≤ 100 := by rw [List.length_take]; omega
  have HC1 := Lib.hid (Z.add 7 (es.take k) _ 0 _ HS10.out.b HI7.out (by decide) (named_one (by omega) (by omega) _) (by omega) (by omega) HTK.out hl1 HSK.out (by rw [HAE.out]; exact HT1.out))
  clear HTK HSK hl1
  refine take_only (i := 11) (by kernel_rfl) rfl (by rfl) (fun K hK => ?_)
  go_simp
  go_at_call 24
  refine (HC1.out).mono ?_
  rintro x w11 ⟨rfl, ⟨S11, hd11, hg11⟩, hb11⟩
  refine hK.out _ _ ?_ (fun hHeld => ?_)
  · exact (HS10.out.next hd11 hg11 hb11).pb
  clear hK K
  have HS11 := Lib.hid (HS10.out.next hd11 hg11 hb11)
  clear hd11 hg11 hb11 HS10 HC1
  refine take_wanted (i := 12) (v := ?_) rfl (by kernel_rfl) (by kernel_rfl) (by kernel_rfl) (fun _ _ _ h => h) (by rfl) ?_ (by assumption) ?_
  rotate_left
  · intro w hSw
    (try dsimp only at hSw)
    go_simp
    (try with_reducible rfl)
  simp only [Act.put, List.setIfInBounds_toArray, List.set_cons_zero, List.set_cons_succ]
  refine take_wanted (i := 13) (v := ?_) rfl (by kernel_rfl) (by kernel_rfl) (by kernel_rfl) (fun _ _ _ h => h) (by rfl) ?_ (by assumption) ?_
  rotate_left
  · intro w hSw
    (try dsimp only at hSw)
    go_simp
    (try with_reducible rfl)
  simp only [Act.put, List.setIfInBounds_toArray, List.set_cons_zero, List.set_cons_succ]
  refine take_wanted (i := 14) (v := ?_) rfl (by kernel_rfl) (by kernel_rfl) (by kernel_rfl) (fun _ _ _ h => h) (by rfl) ?_ (by assumption) ?_
  rotate_left
  · intro w hSw
    (try dsimp only at hSw)
    go_simp
    (try with_reducible rfl)
  simp only [Act.put, List.setIfInBounds_toArray, List.set_cons_zero, List.set_cons_succ]
  refine take_wanted (i := 15) (v := ?_) rfl (by kernel_rfl) (by kernel_rfl) (by kernel_rfl) (fun _ _ _ h => h) (by rfl) ?_ (by assumption) ?_
  rotate_left
  · intro w hSw
    (try dsimp only at hSw)
    go_simp
    (try with_reducible rfl)
  simp only [Act.put, List.setIfInBounds_toArray, List.set_cons_zero, List.set_cons_succ]
  refine take_wanted (i := 16) (v := ?_) rfl (by kernel_rfl) (by kernel_rfl) (by kernel_rfl) (fun _ _ _ h => h) (by rfl) ?_ (by assumption) ?_
  rotate_left
  · intro w hSw
    (try dsimp only at hSw)
    go_simp
    (try with_reducible rfl)
  simp only [Act.put, List.setIfInBounds_toArray, List.set_cons_zero, List.set_cons_succ]
  have HC2 := Lib.hid (Z.add 7 [] (.slice none 0 0) 0 _ HS11.out.b HIA.out (by decide) (named_one (by omega) (by omega) _) (by omega) (by omega) (fun w' _ => ⟨none, 0, rfl, Nat.le_refl _, fun _ => rfl, fun i hi => by simp at hi⟩) (by simp) (fun x hx => by cases hx) HT2.out)
  refine take_only (i := 17) (by kernel_rfl) rfl (by rfl) (fun K hK => ?_)
  go_simp
  go_at_call 24
  refine (HC2.out).mono ?_
  rintro x w12 ⟨rfl, ⟨S12, hd12, hg12⟩, hb12⟩
  refine hK.out _ _ ?_ (fun hHeld => ?_)
  · exact (HS11.out.next hd12 hg12 hb12).pb
  clear hK K
  have HS12 := Lib.hid (HS11.out.next hd12 hg12 hb12)
  clear hd12 hg12 hb12 HS11 HC2
  refine take_wanted (i := 18) (v := ?_) rfl (by kernel_rfl) (by kernel_rfl) (by kernel_rfl) (fun _ _ _ h => h) (by rfl) ?_ (by assumption) ?_
  rotate_left
  · intro w hSw
    (try dsimp only at hSw)
    go_simp
    (try with_reducible rfl)
  simp only [Act.put, List.setIfInBounds_toArray, List.set_cons_zero, List.set_cons_succ]
  refine take_wanted (i := 19) (v := ?_) rfl (by kernel_rfl) (by kernel_rfl) (by kernel_rfl) (fun _ _ _ h => h) (by rfl) ?_ (by assumption) ?_
  rotate_left
  · intro w hSw
    (try dsimp only at hSw)
    go_simp
    (try with_reducible rfl)
  simp only [Act.put, List.setIfInBounds_toArray, List.set_cons_zero, List.set_cons_succ]
  refine take_wanted (i := 20) (v := ?_) rfl (by kernel_rfl) (by kernel_rfl) (by kernel_rfl) (fun _ _ _ h => h) (by rfl) ?_ (by assumption) ?_
  rotate_left
  · intro w hSw
    (try dsimp only at hSw)
    go_simp
    (try with_reducible rfl)
  simp only [Act.put, List.setIfInBounds_toArray, List.set_cons_zero, List.set_cons_succ]
  refine take_wanted (i := 21) (v := ?_) rfl (by kernel_rfl) (by kernel_rfl) (by kernel_rfl) (fun _ _ _ h => h) (by rfl) ?_ (by assumption) ?_
  rotate_left
  · intro w hSw
    (try dsimp only at hSw)
    go_simp
    (try with_reducible rfl)
  simp only [Act.put, List.setIfInBounds_toArray, List.set_cons_zero, List.set_cons_succ]
  refine take_wanted (i := 22) (v := ?_) rfl (by kernel_rfl) (by kernel_rfl) (by kernel_rfl) (fun _ _ _ h => h) (by rfl) ?_ (by assumption) ?_
  rotate_left
  · intro w hSw
    (try dsimp only at hSw)
    go_simp
    (try with_reducible rfl)
  simp only [Act.put, List.setIfInBounds_toArray, List.set_cons_zero, List.set_cons_succ]
  refine take_wanted (i := 23) (v := ?_) rfl (by kernel_rfl) (by kernel_rfl) (by kernel_rfl) (fun _ _ _ h => h) (by rfl) ?_ (by assumption) ?_
  rotate_left
  · intro w hSw
    (try dsimp only at hSw)
    go_simp
    (try with_reducible rfl)
  simp only [Act.put, List.setIfInBounds_toArray, List.set_cons_zero, List.set_cons_succ]
  refine take_wanted (i := 24) (v := ?_) rfl (by kernel_rfl) (by kernel_rfl) (by kernel_rfl) (fun _ _ _ h => h) (by rfl) ?_ (by assumption) ?_
  rotate_left
  · intro w hSw
    (try dsimp only at hSw)
    go_simp
    (try with_reducible rfl)
  simp only [Act.put, List.setIfInBounds_toArray, List.set_cons_zero, List.set_cons_succ]
  refine take_wanted (i := 25) (v := ?_) rfl (by kernel_rfl) (by kernel_rfl) (by kernel_rfl) (fun _ _ _ h => h) (by rfl) ?_ (by assumption) ?_
  rotate_left
  · intro w hSw
    (try dsimp only at hSw)
    go_simp
    (try with_reducible rfl)
  simp only [Act.put, List.setIfInBounds_toArray, List.set_cons_zero, List.set_cons_succ]
  have HTD : Hid (∀ w', D.But S12 w12 w' → ReadsR w' (.slice (if cap = k then aa else Option.map (fun x => x.add (k * 7)) aa) (es.length - k) (cap - k)) (es.drop k)) := Lib.hid fun w' hb => readsR_rest (HRA.out _ (but_low HS12.out.bel hb HS12.out.lo)) hk
  have HSD : Hid (∀ x ∈ es.drop k, E.Small x.1.b) := Lib.hid fun x hx => HSM.out x (List.mem_of_mem_drop hx)
  have hl2 : (es.drop k).length ≤ 100 := by rw [List.length_drop]; omega
  have HC3 := Lib.hid (Z.add 7 (es.drop k) _ 0 _ HS12.out.b HIA.out (by decide) (named_one (by omega) (by omega) _) (by omega) (by omega) HTD.out hl2 HSD.out (by rw [HDE.out]; exact HT3.out))
  clear HTD HSD hl2
  generalize (if cap = k then aa else Option.map (fun x => x.add (k * 7)) aa) = a3 at *
  refine take_only (i := 26) (by kernel_rfl) rfl (by rfl) (fun K hK => ?_)
  go_simp
  go_at_call 24
  refine (HC3.out).mono ?_
  rintro x w13 ⟨rfl, ⟨S13, hd13, hg13⟩, hb13⟩
  refine hK.out _ _ ?_ (fun hHeld => ?_)
  · exact (HS12.out.next hd13 hg13 hb13).pb
  clear hK K
  have HS13 := Lib.hid (HS12.out.next hd13 hg13 hb13)
  clear hd13 hg13 hb13 HS12 HC3 HT1 HT2 HT3 HAE HDE HAD HFA HAL HIA HCR HI7
  refine take_wanted (i := 27) (v := ?_) rfl (by kernel_rfl) (by kernel_rfl) (by kernel_rfl) (fun _ _ _ h => h) (by rfl) ?_ (by assumption) ?_
  rotate_left
  · intro w hSw
    (try dsimp only at hSw)
    go_simp
    (try with_reducible rfl)
  simp only [Act.put, List.setIfInBounds_toArray, List.set_cons_zero, List.set_cons_succ]
  refine take_wanted (i := 28) (v := ?_) rfl (by kernel_rfl) (by kernel_rfl) (by kernel_rfl) (fun _ _ _ h => h) (by rfl) ?_ (by assumption) ?_
  rotate_left
  · intro w hSw
    (try dsimp only at hSw)
    go_simp
    (try with_reducible rfl)
  simp only [Act.put, List.setIfInBounds_toArray, List.set_cons_zero, List.set_cons_succ]
  refine wpAnyH_done (by kernel_rfl) ?_ _
  have hpa := HS13.out.pa
  have hpb := HS13.out.pb
  go_wp2_with fail
  refine (C.read nm7 sb 0 HS13.out.a HI8.out (by decide) (by simp) HRB.out).mono ?_
  rintro x w14 ⟨rfl, hb14⟩
  have HS14 := Lib.hid (HS13.out.below hb14)
  clear hb14 HS13 hpa hpb hHeld
  have hpa := HS14.out.pa
  have hpb := HS14.out.pb
  go_wp2_with fail
  refine (C.read nm7 sb 0 HS14.out.b HI8.out (by decide) (by simp) HRB.out).mono ?_
  rintro x w15 ⟨rfl, hb15⟩
  have HS15 := Lib.hid (HS14.out.below hb15)
  clear hb15 HS14 hpa hpb
  have hpa := HS15.out.pa
  have hpb := HS15.out.pb
  go_wp2_with fail
  refine (C.synced nm7 sb.length HS15.out.a HI8.out (by decide) (by simp) HYB.out).mono ?_
  rintro x w16 ⟨rfl, hb16⟩
  have HS16 := Lib.hid (HS15.out.below hb16)
  clear hb16 HS15 hpa hpb
  have hpb := HS16.out.pb
  go_wp2_with fail
  refine (C.synced nm7 sb.length HS16.out.b HI8.out (by decide) (by simp) HYB.out).mono ?_
  rintro x w17 ⟨rfl, hb17⟩
  have HS17 := Lib.hid (HS16.out.below hb17)
  clear hb17 HS16 hpb
  go_wp2
  go_ret
  exact ⟨rfl, HS17.out.bel⟩
end Go.Proofs.YtpdnbpihkiijkaaGreatDoor.G
