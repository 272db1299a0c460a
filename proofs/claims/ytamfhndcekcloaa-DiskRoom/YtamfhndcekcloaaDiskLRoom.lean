/-
  The walk of the law DiskRoom over any disk that keeps its contracts.
-/
import Derived.Test.YtamfhndcekcloaaDiskLTwice
import Derived.Test.YtamfhndcekcloaaDiskK
namespace Go.Proofs.Ytamfhndcekcloaa.D
open Go.RowKit
attribute [local go_sem] ext_Bd ext_Bl ext_Bt toList_B add_B size_B get_Bt

/-- The name of the j-th file. -/
def nmR (j : Nat) : Tx := [102, if j < 26 then (97 + j).toUInt8 else (22 + j).toUInt8]
theorem nmR_name : ∀ j, j < 30 → nameL (nmR j) = true := fun j hj => by
  have h : ((List.range 30).all fun j => nameL (nmR j)) = true := by kernel_rfl
  exact List.all_eq_true.1 h j (List.mem_range.2 hj)
theorem nmR_inj : ∀ i j, i < 30 → j < 30 → nmR i = nmR j → i = j := fun i j hi hj h => by
  have h0 : ((List.range 30).all fun i => (List.range 30).all fun j => decide (nmR i = nmR j → i = j)) = true := by kernel_rfl
  exact of_decide_eq_true (List.all_eq_true.1 (List.all_eq_true.1 h0 i (List.mem_range.2 hi)) j (List.mem_range.2 hj)) h
theorem nmR_cut : ∀ j, j < 30 → (⟨#[102]⟩ : ByteArray) ++ (⟨#[97, 98, 99, 100, 101, 102, 103, 104, 105, 106, 107, 108, 109, 110, 111, 112, 113, 114, 115, 116, 117, 118, 119, 120, 121, 122, 48, 49, 50, 51]⟩ : ByteArray).extract j (j + 1) = B (nmR j) := fun j hj => by
  have h : ((List.range 30).all fun j => decide ((⟨#[102]⟩ : ByteArray) ++ (⟨#[97, 98, 99, 100, 101, 102, 103, 104, 105, 106, 107, 108, 109, 110, 111, 112, 113, 114, 115, 116, 117, 118, 119, 120, 121, 122, 48, 49, 50, 51]⟩ : ByteArray).extract j (j + 1) = B (nmR j))) = true := by kernel_rfl
  exact of_decide_eq_true (List.all_eq_true.1 h j (List.mem_range.2 hj))
theorem nmR_rest (j : Nat) : nmR j ≠ [114, 101, 115, 116] := by simp [nmR]
def zs (k : Nat) : Tx := List.replicate k 0
theorem zs_len (k : Nat) : (zs k).length = k := by simp [zs]
attribute [local go_sem] zs_len
theorem zs_take {k n : Nat} (h : k ≤ n) : (zs n).take k = zs k := by
  unfold zs
  rw [List.take_replicate]
  congr 1
  omega
theorem made_zs : (madeCells (Value.int IntKind.u8 0).cells (2000 * 1)).toList = Lib.byteCells (zs 2000) := by
  rw [show (Value.int IntKind.u8 0).cells = #[.int .u8 0] from rfl, toList_madeCells_one, Nat.mul_one]
  unfold zs Lib.byteCells
  rw [List.map_replicate]
  rfl
theorem row_but {w w' : World} {bs b2 n : Nat} {v : Value} {xs : List Value} {S : Nat → Prop} (h : w.ownsRow bs 5 1 v n xs) (hb : But S w w') (hs : ∀ k, v.ownBlock = some k → ¬ S k) (_ : b2 = 0) : w'.ownsRow bs 5 1 v n xs :=
  row_ext h fun k hk => hb.block k (own_lt h hk) (hs k hk)
/-- Where the disk stands behind i sizes. -/
structure RS (C : DC) (w : World) (p n g i : Nat) (wr : World) (l : List F) (S : Nat → Prop) : Prop where
  at_ : C.At w.heap.size wr p n l S
  inv : Inv n l
  nam : ∀ f ∈ l, ∃ j, j < i ∧ f.name = nmR j
  len : l.length ≤ i
  bel : Below w.heap.size w wr
  row : wr.ownsRow w.heap.size 5 1 (.slice (some ⟨g, 0, none⟩) 2000 2000) 2000 (Lib.byteCells (zs 2000))
  off : ¬ S g
theorem RS.lo {C : DC} {w : World} {p n g i : Nat} {wr : World} {l : List F} {S : Nat → Prop} (h : RS C w p n g i wr l S) : ∀ k, S k → w.heap.size ≤ k := fun _ hk => (C.low h.at_ hk).1
theorem RS.below {C : DC} {w : World} {p n g i : Nat} {wr w' : World} {l : List F} {S : Nat → Prop} (h : RS C w p n g i wr l S) (hb : Below wr.heap.size wr w') : RS C w p n g i w' l S :=
  ⟨C.below h.at_ hb, h.inv, h.nam, h.len, h.bel.trans (hb.mono h.bel.size), own_below h.row hb, h.off⟩
theorem RS.next {C : DC} {w : World} {p n g i : Nat} {wr : World} {l : List F} {S : Nat → Prop} (h : RS C w p n g i wr l S) : RS C w p n g (i + 1) wr l S :=
  ⟨h.at_, h.inv, fun f hf => by obtain ⟨j, hj, e⟩ := h.nam f hf; exact ⟨j, by omega, e⟩, by have := h.len; omega, h.bel, h.row, h.off⟩
/-- Behind a call that writes the disk. -/
theorem RS.wrote {C : DC} {w : World} {p n g i i2 : Nat} {wr w' : World} {l l2 : List F} {S S2 : Nat → Prop} (h : RS C w p n g i wr l S) (hd : C.At w.heap.size w' p n l2 S2) (hg : Grow S wr S2) (hb : But S wr w') (hi : Inv n l2) (hn : ∀ f ∈ l2, ∃ j, j < i2 ∧ f.name = nmR j) (hl : l2.length ≤ i2) : RS C w p n g i2 w' l2 S2 :=
  ⟨hd, hi, hn, hl, But.low h.bel hb h.lo, row_but h.row hb (fun k e => by cases e; exact h.off) rfl, fun h2 => by
    rcases hg g h2 with h3 | h3
    · exact h.off h3
    · have := own_lt h.row (k := g) rfl
      omega⟩
theorem RS.fresh {C : DC} {w : World} {p n g i : Nat} {wr : World} {l : List F} {S : Nat → Prop} (h : RS C w p n g i wr l S) (hi : i < 30) : find (nmR i) l = none := by
  cases hf : find (nmR i) l with
  | none => rfl
  | some f =>
    obtain ⟨hm, he⟩ := find_some hf
    obtain ⟨j, hj, e⟩ := h.nam f hm
    have := nmR_inj i j hi (by omega) (he.symm.trans e)
    omega
theorem app_okR {n i k : Nat} {l : List F} (hi : i < 30) (hf : find (nmR i) l = none) (hl : l.length ≤ i) (hu : used l + k ≤ n) : D.append n (nmR i) (zs k) l = (0, put ⟨nmR i, zs k, 0⟩ l) := by
  unfold D.append
  rw [nmR_name i hi, hf, zs_len]
  rw [if_neg (by decide), if_neg (by omega), if_neg (by omega)]
theorem app_noR {n i k : Nat} {l : List F} (hi : i < 30) (hf : find (nmR i) l = none) (hl : l.length ≤ i) (hu : n < used l + k) : D.append n (nmR i) (zs k) l = (8, l) := by
  unfold D.append
  rw [nmR_name i hi, hf, zs_len]
  rw [if_neg (by decide), if_neg (by omega), if_pos (by omega)]
theorem app_restR {n i k : Nat} {l : List F} (hl : l.length ≤ i) (hi : i ≤ 30) (hn : ∀ f ∈ l, ∃ j, j < i ∧ f.name = nmR j) (hu : used l + k ≤ n) : D.append n [114, 101, 115, 116] (zs k) l = (0, put ⟨[114, 101, 115, 116], zs k, 0⟩ l) ∧ find [114, 101, 115, 116] l = none := by
  have hf : find [114, 101, 115, 116] l = none := by
    cases hf : find [114, 101, 115, 116] l with
    | none => rfl
    | some f =>
      obtain ⟨hm, he⟩ := find_some hf
      obtain ⟨j, hj, e⟩ := hn f hm
      exact absurd (e.symm.trans he) (nmR_rest j)
  refine ⟨?_, hf⟩
  unfold D.append
  have hr : nameL [114, 101, 115, 116] = true := by kernel_rfl
  rw [hr, hf, zs_len]
  rw [if_neg (by decide), if_neg (by omega), if_neg (by omega)]
theorem namR_put {i k : Nat} {l : List F} (h : ∀ f ∈ l, ∃ j, j < i ∧ f.name = nmR j) : ∀ f ∈ put ⟨nmR i, zs k, 0⟩ l, ∃ j, j < i + 1 ∧ f.name = nmR j := fun f hf => by
  rcases mem_put hf with rfl | hf
  · exact ⟨i, by omega, rfl⟩
  · obtain ⟨j, hj, e⟩ := h f hf
    exact ⟨j, by omega, e⟩
theorem lenR_put {f : F} {l : List F} {i : Nat} (hs : Sorted l) (h : l.length ≤ i) : (put f l).length ≤ i + 1 := by
  rw [length_put hs]
  split <;> omega
theorem useR_put {f : F} {l : List F} (hs : Sorted l) (h : find f.name l = none) : used (put f l) = used l + f.data.length := by
  have := used_put (f := f) hs
  rw [h] at this
  simp only [lenAt] at this
  omega
set_option maxHeartbeats 16000000 in
set_option maxRecDepth 100000 in
theorem room_walk (C : DC) (room : Int) (sz : List Int) (vs : Value) (w : World) (hro : i64B room) (hS : ReadsI w vs sz) :
    Calls Try.prog 7 #[.int .i64 room, vs] w fun x w' => x = .returned (.bool true) ∧ Below w.heap.size w w' := by
  obtain ⟨i0, hi, hz0, hz1, hz2⟩ := info_parts Try.infoByte
  obtain ⟨pk, HPK⟩ : ∃ k, Hid (pickN room 2000 = k) := ⟨_, Lib.hid rfl⟩
  have hpk : pk < 2000 := by rw [← HPK.out]; exact pickN_lt room (by omega)
  have HRO := Lib.hid hro
  have HSZ := Lib.hid hS
  obtain ⟨sa, sc, hv, -⟩ := hS
  subst hv
  clear hro
  obtain ⟨n, HN⟩ : ∃ n, Hid (1 + pk = n) := ⟨_, Lib.hid rfl⟩
  have hn : 1 ≤ n ∧ n ≤ 2000 := by have := HN.out; omega
  have hni : (1 : Int) + (pk : Int) = (n : Int) := by have := HN.out; omega
  go_enter Try.func7, Try.ntmps7
  go_wp2_with fail
  refine (shown8_l C w).mono ?_
  rintro x w1 ⟨rfl, hb1⟩
  have HB1 := Lib.hid hb1
  clear hb1
  go_wp2_with fail
  refine (pick_l room 2000 pk w1 HRO.out (by omega) (by omega) HPK).mono ?_
  rintro x w1x ⟨rfl, rfl⟩
  go_wp2_with fail
  refine (C.new_ok (bs := w.heap.size) (w := w1x) n HB1.out.size (by omega) (by omega)).mono ?_
  rintro x w2 ⟨⟨p, S0, rfl, hd2, -⟩, hb2⟩
  have HB2 := Lib.hid (HB1.out.trans (hb2.mono HB1.out.size))
  have HD2 := Lib.hid hd2
  clear hd2 hb2 HB1
  by_cases h30 : 30 < sz.length
  · have h30i : (30 : Int) < (sz.length : Int) := by omega
    go_wp2
    go_ret
    exact ⟨rfl, HB2.out⟩
  have h30i : ¬ (30 : Int) < (sz.length : Int) := by omega
  go_wp2_with (at_make; refine wpList_make_full _ rfl _ _ 52 rfl w.heap.size 5 i0 (.int .u8 0) 1 Try.underlying52 hi hz0 hz1 .i64 .i64 _ _ 2000 rfl rfl (by omega) (by omega) (by rw [hz2]; omega) (by unfold maxLen; omega) HB2.out.size ?_; intro w3 hown3 hgrow3; have HG3 := Lib.hid hgrow3; have HO3 := Lib.hid hown3; clear hgrow3 hown3)
  have hz1c := made_zs
  have HRS0 : Hid (RS C w p n w2.heap.size 0 w3 [] S0) := Lib.hid ⟨C.below HD2.out ⟨HG3.out.os, HG3.out.tape, HG3.out.output, HG3.out.size, fun k hk => HG3.out.block k hk (by simp)⟩, inv_nil _, fun f hf => absurd hf (by simp), Nat.le_refl _, HB2.out.grown HG3.out HB2.out.size (fun k e => by cases e), by rw [← hz1c]; exact HO3.out, fun h => by have := (C.low HD2.out h).2; omega⟩
  clear hz1c HO3 HG3 HD2 HB2
  go_loopw [10, 11] (fun u i wr => ∃ (j q : Nat) (l : List F) (S : Nat → Prop), i = .int .i64 j ∧ u = .int .i64 q ∧ j ≤ sz.length ∧ Hid (used l = q) ∧ RS C w p n w2.heap.size j wr l S) (fun _ i _ => sz.length - (intOf i).toNat)
  case atStart => exact ⟨0, 0, [], S0, rfl, rfl, Nat.zero_le _, Lib.hid rfl, HRS0.out⟩
  case round =>
    obtain ⟨j, q, l, S, rfl, rfl, hj, HU, hrs⟩ := hrel
    have HRS := Lib.hid hrs
    clear hrs HRS0
    have hqn : q ≤ n := by have := HRS.out.inv.room; have := HU.out; omega
    by_cases hlt : j < sz.length
    · have hj1 : (j : Int) < (sz.length : Int) := by omega
      have hj30 : j < 30 := by omega
      obtain ⟨_, _, hv, hx⟩ := HSZ.out
      cases hv
      obtain ⟨hzb, b, off, hab, g0⟩ := hx j hlt
      subst hab
      have HZB := Lib.hid hzb
      have z0 := keeps HRS.out.bel _ _ g0
      clear hx g0 hzb
      obtain ⟨k, HK⟩ : ∃ k, Hid (pickN sz[j] 500 = k) := ⟨_, Lib.hid rfl⟩
      have hk5 : k < 500 := by rw [← HK.out]; exact pickN_lt _ (by omega)
      generalize sz[j] = z at z0 HZB HK
      have kc := conv_owned (own_cut (c := 2000) (d := zs 2000) (k := k) (by rw [zs_len]; exact HRS.out.row) (by rw [zs_len]; omega))
      rw [zs_take (by omega)] at kc
      have hcut := nmR_cut j hj30
      have HCUT := Lib.hid hcut
      clear hcut
      go_wp2_with fail
      refine (pick_l z 500 k wr HZB.out (by omega) (by omega) HK).mono ?_
      rintro x wrx ⟨rfl, rfl⟩
      clear z0
      go_wp2_with fail
      rw [HCUT.out]
      have HF := Lib.hid (HRS.out.fresh hj30)
      have hlj := HRS.out.len
      by_cases hfit : q + k ≤ n
      · have hfi : (q : Int) + (k : Int) ≤ (n : Int) := by omega
        refine (C.append (nmR j) (zs k) 0 _ HRS.out.at_ HRS.out.inv (by omega) (by simp [nmR]) (by rw [zs_len]; omega) (app_okR hj30 HF.out hlj (by rw [HU.out]; exact hfit))).mono ?_
        rintro x w5 ⟨rfl, ⟨S5, hd5, hg5⟩, hb5⟩
        have HRS5 : Hid (RS C w p n w2.heap.size (j + 1) w5 (put ⟨nmR j, zs k, 0⟩ l) S5) := Lib.hid (HRS.out.wrote hd5 hg5 hb5 (by have := HRS.out.inv.append (n := nmR j) (s := zs k); rw [app_okR hj30 HF.out hlj (by rw [HU.out]; exact hfit)] at this; exact this) (namR_put HRS.out.nam) (lenR_put HRS.out.inv.sorted hlj))
        have HU5 : Hid (used (put ⟨nmR j, zs k, 0⟩ l) = q + k) := Lib.hid (by rw [useR_put HRS.out.inv.sorted HF.out, HU.out]; show q + (zs k).length = _; rw [zs_len])
        clear hd5 hg5 hb5 kc
        by_cases h3 : j % 4 = 3
        · have h3i : (j : Int) % 4 = 3 := by omega
          have h3b : ((j : Int) % 4 == 3) = true := beq_iff_eq.2 h3i
          have HRE : Hid (D.read (nmR j) (put ⟨nmR j, zs k, 0⟩ l) = (zs k, 0)) := Lib.hid (by unfold D.read; rw [show find (nmR j) (put ⟨nmR j, zs k, 0⟩ l) = some ⟨nmR j, zs k, 0⟩ from find_put (f := ⟨nmR j, zs k, 0⟩) l])
          have HDE : Hid (D.delete (nmR j) (put ⟨nmR j, zs k, 0⟩ l) = (0, l)) := Lib.hid (by unfold D.delete; rw [show find (nmR j) (put ⟨nmR j, zs k, 0⟩ l) = some ⟨nmR j, zs k, 0⟩ from find_put (f := ⟨nmR j, zs k, 0⟩) l]; show (0, del (nmR j) _) = _; rw [del_put (f := ⟨nmR j, zs k, 0⟩) HF.out])
          have HINV := Lib.hid HRS.out.inv
          have HNAM := Lib.hid HRS.out.next.nam
          clear HRS h3i
          go_wp2_with fail
          refine (C.read (nmR j) (zs k) 0 HRS5.out.at_ HRS5.out.inv (by omega) (by simp [nmR]) HRE.out).mono ?_
          rintro x w6 ⟨rfl, hb6⟩
          have HRS6 := Lib.hid (HRS5.out.below hb6)
          clear hb6
          go_wp2_with fail
          refine (C.delete (nmR j) 0 l HRS6.out.at_ HRS6.out.inv (by omega) (by simp [nmR]) HDE.out).mono ?_
          rintro x w7 ⟨rfl, ⟨S7, hd7, hg7⟩, hb7⟩
          have HRS7 : Hid (RS C w p n w2.heap.size (j + 1) w7 l S7) := Lib.hid (HRS6.out.wrote hd7 hg7 hb7 HINV.out HNAM.out (by omega))
          clear hd7 hg7 hb7 HRS6 HRS5
          have hqk : (q : Int) + (k : Int) - (k : Int) = (q : Int) := by omega
          have cU := C.used (C.below HRS7.out.at_ (Below.refl _ _)) HRS7.out.inv (by omega)
          rw [HU.out] at cU
          have CU := Lib.hid cU
          clear cU
          go_wp2_with fail
          refine CU.out.mono ?_
          rintro x w8 ⟨rfl, hbu⟩
          have HRSu := Lib.hid ((HRS7.out.below hbu))
          clear hbu CU
          go_wp2
          go_roundw
          case rel => exact ⟨j + 1, q, l, _, by go_num, by go_num, by omega, HU, HRSu.out⟩
          case measure => simp [intOf]; omega
        · have h3i : ¬ (j : Int) % 4 = 3 := by omega
          have h3b : ((j : Int) % 4 == 3) = false := beq_eq_false_iff_ne.2 h3i
          clear HRS h3i
          have cU := C.used (C.below HRS5.out.at_ (Below.refl _ _)) HRS5.out.inv (by omega)
          rw [HU5.out] at cU
          have CU := Lib.hid cU
          clear cU
          go_wp2_with fail
          refine CU.out.mono ?_
          rintro x w8 ⟨rfl, hbu⟩
          have HRSu := Lib.hid ((HRS5.out.below hbu))
          clear hbu CU
          go_wp2
          go_roundw
          case rel => exact ⟨j + 1, q + k, _, _, by go_num, by go_num, by omega, HU5, HRSu.out⟩
          case measure => simp [intOf]; omega
      · have hfi : ¬ (q : Int) + (k : Int) ≤ (n : Int) := by omega
        refine (C.append (nmR j) (zs k) 8 _ HRS.out.at_ HRS.out.inv (by omega) (by simp [nmR]) (by rw [zs_len]; omega) (app_noR hj30 HF.out hlj (by rw [HU.out]; omega))).mono ?_
        rintro x w5 ⟨rfl, ⟨S5, hd5, hg5⟩, hb5⟩
        have HRS5 : Hid (RS C w p n w2.heap.size (j + 1) w5 l S5) := Lib.hid (HRS.out.wrote hd5 hg5 hb5 HRS.out.inv HRS.out.next.nam HRS.out.next.len)
        clear hd5 hg5 hb5 kc HRS
        by_cases h3 : j % 4 = 3
        · have h3i : (j : Int) % 4 = 3 := by omega
          have h3b : ((j : Int) % 4 == 3) = true := beq_iff_eq.2 h3i
          have HRE : Hid (D.read (nmR j) l = ([], 6)) := Lib.hid (by unfold D.read; rw [HF.out])
          have HDE : Hid (D.delete (nmR j) l = (6, l)) := Lib.hid (by unfold D.delete; rw [HF.out])
          clear h3i
          go_wp2_with fail
          refine (C.read (nmR j) [] 6 HRS5.out.at_ HRS5.out.inv (by omega) (by simp [nmR]) HRE.out).mono ?_
          rintro x w6 ⟨rfl, hb6⟩
          have HRS6 := Lib.hid (HRS5.out.below hb6)
          clear hb6
          go_wp2_with fail
          refine (C.delete (nmR j) 6 l HRS6.out.at_ HRS6.out.inv (by omega) (by simp [nmR]) HDE.out).mono ?_
          rintro x w7 ⟨rfl, ⟨S7, hd7, hg7⟩, hb7⟩
          have HRS7 : Hid (RS C w p n w2.heap.size (j + 1) w7 l S7) := Lib.hid (HRS6.out.wrote hd7 hg7 hb7 HRS6.out.inv HRS6.out.nam HRS6.out.len)
          clear hd7 hg7 hb7 HRS6 HRS5
          have cU := C.used (C.below HRS7.out.at_ (Below.refl _ _)) HRS7.out.inv (by omega)
          rw [HU.out] at cU
          have CU := Lib.hid cU
          clear cU
          go_wp2_with fail
          refine CU.out.mono ?_
          rintro x w8 ⟨rfl, hbu⟩
          have HRSu := Lib.hid ((HRS7.out.below hbu))
          clear hbu CU
          go_wp2
          go_roundw
          case rel => exact ⟨j + 1, q, l, _, by go_num, by go_num, by omega, HU, HRSu.out⟩
          case measure => simp [intOf]; omega
        · have h3i : ¬ (j : Int) % 4 = 3 := by omega
          have h3b : ((j : Int) % 4 == 3) = false := beq_eq_false_iff_ne.2 h3i
          clear h3i
          have cU := C.used (C.below HRS5.out.at_ (Below.refl _ _)) HRS5.out.inv (by omega)
          rw [HU.out] at cU
          have CU := Lib.hid cU
          clear cU
          go_wp2_with fail
          refine CU.out.mono ?_
          rintro x w8 ⟨rfl, hbu⟩
          have HRSu := Lib.hid ((HRS5.out.below hbu))
          clear hbu CU
          go_wp2
          go_roundw
          case rel => exact ⟨j + 1, q, l, _, by go_num, by go_num, by omega, HU, HRSu.out⟩
          case measure => simp [intOf]; omega
    · have hj1 : ¬ (j : Int) < (sz.length : Int) := by omega
      have hj30 : j ≤ 30 := by omega
      have hlj := HRS.out.len
      by_cases hA : n - q < 2000
      · obtain ⟨t, ht⟩ : ∃ t, n - q = t := ⟨_, rfl⟩
        rw [ht] at hA
        have hqt : q + t = n := by omega
        have e1 : ((n : Int) - (q : Int)) = (t : Int) := by omega
        have e2 : (t : Int) < 2000 := by omega
        have e5 : min (2000 : Int) (t : Int) = (t : Int) := by omega
        have e6 : min (n : Int) ((q : Int) + 2000) = (q : Int) + (t : Int) := by omega
        clear e2
        have kc := conv_owned (own_cut (c := 2000) (d := zs 2000) (k := t) (by rw [zs_len]; exact HRS.out.row) (by rw [zs_len]; omega))
        rw [zs_take (by omega)] at kc
        have HAP := Lib.hid (app_restR (n := n) (k := t) hlj hj30 HRS.out.nam (by rw [HU.out]; omega))
        have HUQ : Hid (used (put ⟨[114, 101, 115, 116], zs t, 0⟩ l) = q + t) := Lib.hid (by rw [useR_put (f := ⟨[114, 101, 115, 116], zs t, 0⟩) HRS.out.inv.sorted HAP.out.2, HU.out]; show q + (zs t).length = _; rw [zs_len])
        go_wp2_with fail
        refine (C.append [114, 101, 115, 116] (zs t) 0 _ HRS.out.at_ HRS.out.inv (by omega) (by simp) (by rw [zs_len]; omega) HAP.out.1).mono ?_
        rintro x w5 ⟨rfl, ⟨S5, hd5, hg5⟩, hb5⟩
        have HI5 : Hid (Inv n (put ⟨[114, 101, 115, 116], zs t, 0⟩ l)) := Lib.hid (by have := HRS.out.inv.append (n := [114, 101, 115, 116]) (s := zs t); rw [HAP.out.1] at this; exact this)
        have HB5 := Lib.hid (But.low HRS.out.bel hb5 HRS.out.lo)
        have cU := C.used hd5 HI5.out (by omega)
        rw [HUQ.out] at cU
        have CU := Lib.hid cU
        clear cU hd5 hg5 hb5 kc HAP
        go_wp2_with fail
        refine CU.out.mono ?_
        rintro x w6 ⟨rfl, hb6⟩
        have HB6 := Lib.hid (HB5.out.trans (hb6.mono HB5.out.size))
        clear hb6 CU
        go_wp2
        go_ret
        exact ⟨ret_bool (by first | rfl | exact beq_iff_eq.2 (by omega)), HB6.out⟩
      · have e5 : min (2000 : Int) ((n : Int) - (q : Int)) = 2000 := by omega
        have e6 : min (n : Int) ((q : Int) + 2000) = (q : Int) + 2000 := by omega
        have kc := conv_owned (own_cut (c := 2000) (d := zs 2000) (k := 2000) (by rw [zs_len]; exact HRS.out.row) (by rw [zs_len]; omega))
        rw [zs_take (by omega)] at kc
        have HAP := Lib.hid (app_restR (n := n) (k := 2000) hlj hj30 HRS.out.nam (by rw [HU.out]; omega))
        have HUQ : Hid (used (put ⟨[114, 101, 115, 116], zs 2000, 0⟩ l) = q + 2000) := Lib.hid (by rw [useR_put (f := ⟨[114, 101, 115, 116], zs 2000, 0⟩) HRS.out.inv.sorted HAP.out.2, HU.out]; show q + (zs 2000).length = _; rw [zs_len])
        go_wp2_with fail
        refine (C.append [114, 101, 115, 116] (zs 2000) 0 _ HRS.out.at_ HRS.out.inv (by omega) (by simp) (by rw [zs_len]; omega) HAP.out.1).mono ?_
        rintro x w5 ⟨rfl, ⟨S5, hd5, hg5⟩, hb5⟩
        have HI5 : Hid (Inv n (put ⟨[114, 101, 115, 116], zs 2000, 0⟩ l)) := Lib.hid (by have := HRS.out.inv.append (n := [114, 101, 115, 116]) (s := zs 2000); rw [HAP.out.1] at this; exact this)
        have HB5 := Lib.hid (But.low HRS.out.bel hb5 HRS.out.lo)
        have cU := C.used hd5 HI5.out (by omega)
        rw [HUQ.out] at cU
        have CU := Lib.hid cU
        clear cU hd5 hg5 hb5 kc HAP
        go_wp2_with fail
        refine CU.out.mono ?_
        rintro x w6 ⟨rfl, hb6⟩
        have HB6 := Lib.hid (HB5.out.trans (hb6.mono HB5.out.size))
        clear hb6 CU
        go_wp2
        go_ret
        exact ⟨ret_bool (by first | rfl | exact beq_iff_eq.2 (by omega)), HB6.out⟩
