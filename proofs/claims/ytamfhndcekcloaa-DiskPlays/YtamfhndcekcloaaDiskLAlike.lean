/-
  The law DiskPlays' helper alike: a disk and the document's with the same files.
-/
import Derived.Test.YtamfhndcekcloaaDiskLTwice
import Derived.Test.YtamfhndcekcloaaRegionPass
namespace Go.Proofs.Ytamfhndcekcloaa.D
open Go.RowKit
attribute [local go_sem] ext_Bd ext_Bl ext_Bt toList_B add_B size_B get_Bt

theorem P2_drew {w1 w : World} {a b : Addr} {v u : Value} (h : w.cell? a = some v ∧ w.cell? b = some u ∧ KeptB w1 w) : w.drew.cell? a = some v ∧ w.drew.cell? b = some u ∧ KeptB w1 w.drew := ⟨h.1, h.2.1, keptB_drew h.2.2⟩
theorem P2_call {w1 w w2 : World} {a b : Addr} {v u : Value} (h : w.cell? a = some v ∧ w.cell? b = some u ∧ KeptB w1 w) (hb : Below w.heap.size w w2) : w2.cell? a = some v ∧ w2.cell? b = some u ∧ KeptB w1 w2 := ⟨keeps hb _ _ h.1, keeps hb _ _ h.2.1, keptB_call h.2.2 hb⟩
theorem quiet_below {w w' : World} (h : sQuiet w w') : Below w.heap.size w w' := below_quiet (Below.refl _ w) h
theorem list_reads {w : World} {bs : Nat} {v : Value} {n : Nat} {l : List F} (h : w.ownsRow bs 9 1 v n (strCells (l.map F.name))) : Reads w v (strCells (l.map F.name)) := reads_own h
variable {bs : Nat}
set_option maxHeartbeats 16000000 in
set_option maxRecDepth 100000 in
theorem alike_l (C : DC) (p mp room : Nat) (l : List F) (S : Nat → Prop) (w : World) (h : C.At bs w p room l S) (hm : MAt bs w mp (room : Int) l) (hi : Inv room l) (hro : room ≤ 1073741824) (hn : NamesLe l) :
    Calls Try.prog 18 #[dP p, dP mp] w fun x w' => x = .returned (.bool true) ∧ Below w.heap.size w w' := by
  have HD := Lib.hid h
  have HM := Lib.hid hm
  have HI := Lib.hid hi
  have HN := Lib.hid hn
  have h40 := hi.many
  obtain ⟨u, HU⟩ : ∃ u, Hid (used l = u) := ⟨_, Lib.hid rfl⟩
  have hu : u ≤ 1073741824 := by have := hi.room; have := HU.out; omega
  clear h hm hi hn
  go_enter Try.func18, Try.ntmps18
  go_wp2_with fail
  refine (C.list HD.out HI.out hro).mono ?_
  rintro x w1 ⟨⟨v1, rfl, hr1⟩, hb1⟩
  have HR1 := Lib.hid hr1
  have HB1 := Lib.hid hb1
  obtain ⟨a1, c1, hv1, -⟩ := hr1
  rw [strCells_len, List.length_map] at hv1
  subst hv1
  clear hb1
  go_wp2_with fail
  refine (mList_l mp room l _ (HM.out.below HB1.out) (by omega)).mono ?_
  rintro x w2 ⟨v2, rfl, ho2, hb2⟩
  have HR2 := Lib.hid (list_reads ho2)
  have HR1b := Lib.hid (reads_below HR1.out hb2)
  have HB2 := Lib.hid (HB1.out.trans (hb2.mono HB1.out.size))
  obtain ⟨a2, c2, hv2, -⟩ := list_reads ho2
  rw [strCells_len, List.length_map] at hv2
  subst hv2
  clear hb2 ho2 HR1 HB1
  have cU := C.used (C.below HD.out HB2.out) HI.out hro
  rw [HU.out] at cU
  have CU := Lib.hid cU
  clear cU
  go_wp2_with fail
  refine CU.out.mono ?_
  rintro x w3 ⟨rfl, hb3⟩
  have HB3 := Lib.hid (HB2.out.trans (hb3.mono HB2.out.size))
  have HR1c := Lib.hid (reads_below HR1b.out hb3)
  have HR2c := Lib.hid (reads_below HR2.out hb3)
  clear hb3 CU HB2 HR1b HR2
  go_wp2_with fail
  refine (mUsed_l mp room l u _ (HM.out.below HB3.out) (by omega) (by have := HU.out; omega) HU).mono ?_
  rintro x w4 ⟨rfl, hq4⟩
  have HB4 := Lib.hid (HB3.out.trans ((quiet_below hq4).mono HB3.out.size))
  have HR1d := Lib.hid (reads_below HR1c.out (quiet_below hq4))
  have HR2d := Lib.hid (reads_below HR2c.out (quiet_below hq4))
  clear hq4 HB3 HR1c HR2c
  go_wp2
  go_loopw [7] (fun i wr => ∃ j : Nat, i = .int .i64 j ∧ j ≤ l.length ∧ Below w4.heap.size w4 wr) (fun i _ => l.length - (intOf i).toNat)
  case atStart => exact ⟨0, rfl, Nat.zero_le _, Below.refl _ _⟩
  case round =>
    obtain ⟨j, rfl, hj, hbr⟩ := hrel
    have HBR := Lib.hid hbr
    clear hbr
    by_cases hlt : j < l.length
    · have hj1 : (j : Int) < (l.length : Int) := by omega
      obtain ⟨_, _, hv, hx⟩ := HR1d.out
      rw [strCells_len, List.length_map] at hv hx
      cases hv
      obtain ⟨b1, o1, hab, g1⟩ := hx j hlt
      subst hab
      obtain ⟨_, _, hv, hx2⟩ := HR2d.out
      rw [strCells_len, List.length_map] at hv hx2
      cases hv
      obtain ⟨b2, o2, hab, g2⟩ := hx2 j hlt
      subst hab
      have e0 : (strCells (l.map F.name))[j]? = some (.string (B l[j].name)) := by simp [strCells, hlt]
      rw [e0] at g1 g2
      have G1 := Lib.hid g1
      have G2 := Lib.hid g2
      have HFD := Lib.hid (find_mem HI.out.sorted (List.getElem_mem hlt))
      have hnl := HN.out _ (List.getElem_mem hlt)
      clear g1 g2 e0 hx hx2
      generalize l[j] = f at G1 G2 HFD hnl
      have HRE : Hid (D.read f.name l = (f.data, 0)) := Lib.hid (by unfold D.read; rw [HFD.out])
      have HSY : Hid (D.synced f.name l = f.syn) := Lib.hid (by unfold D.synced; rw [HFD.out])
      clear HFD
      have z1 := keeps HBR.out _ _ G1.out
      go_wp2_with fail
      refine (C.read f.name f.data 0 (C.below HD.out (HB4.out.trans (HBR.out.mono HB4.out.size))) HI.out hro (by omega) HRE.out).mono ?_
      rintro x w5 ⟨rfl, hb5⟩
      have HB5 := Lib.hid (HBR.out.trans (hb5.mono HBR.out.size))
      clear hb5 z1 HBR
      have z2 := keeps HB5.out _ _ G2.out
      go_wp2_with fail
      refine (mRead_l mp room l f.name f.data 0 _ (HM.out.below (HB4.out.trans (HB5.out.mono HB4.out.size))) HI.out.sorted (by omega) HRE).mono ?_
      rintro x w6 ⟨rfl, hq6⟩
      have HB6 := Lib.hid (HB5.out.trans ((quiet_below hq6).mono HB5.out.size))
      clear hq6 z2 HB5
      have z1 := keeps HB6.out _ _ G1.out
      have z2 := keeps HB6.out _ _ G2.out
      have HSC : Hid (∀ W, KeptB w6 W → Calls Try.prog 25 #[dP p, .string (B f.name)] W fun x w' => x = .returned (.int .i64 (f.syn : Int)) ∧ Below W.heap.size W w') := Lib.hid fun W h => C.synced f.name f.syn (C.below HD.out (HB4.out.trans (Below.mono (HB6.out.trans (Below.mono h HB6.out.size)) HB4.out.size))) HI.out hro (by omega) HSY.out
      have HSM : Hid (∀ W, KeptB w6 W → Calls Try.prog 37 #[dP mp, .string (B f.name)] W fun x w' => x = .returned (.int .i64 (f.syn : Int)) ∧ Below W.heap.size W w') := Lib.hid fun W h => (mSynced_l mp room l f.name f.syn W (HM.out.below (HB4.out.trans (Below.mono (HB6.out.trans (Below.mono h HB6.out.size)) HB4.out.size))) HI.out.sorted (by omega) HSY).mono fun _ _ ⟨a, b⟩ => ⟨a, quiet_below b⟩
      go_upto_region 10 with (fail)
      have hS : w6.cell? ⟨b1, o1 + j, none⟩ = some (.string (B f.name)) ∧ w6.cell? ⟨b2, o2 + j, none⟩ = some (.string (B f.name)) ∧ KeptB w6 w6 := ⟨z1, z2, Below.refl _ _⟩
      refine wp_region_held_drew (S := fun w' => w'.cell? ⟨b1, o1 + j, none⟩ = some (.string (B f.name)) ∧ w'.cell? ⟨b2, o2 + j, none⟩ = some (.string (B f.name)) ∧ KeptB w6 w') (by kernel_rfl) ?_ (fun hHeld => ?_)
      · exact P2_drew hS
      refine take_wanted (i := 0) (v := ?_) rfl (by kernel_rfl) (by kernel_rfl) (by kernel_rfl) (fun _ _ _ h => h) (by rfl) ?_ (by assumption) ?_
      rotate_left
      · intro w hSw
        (try dsimp only at hSw)
        go_simp
        (try with_reducible rfl)
      simp only [Act.put, List.setIfInBounds_toArray, List.set_cons_zero, List.set_cons_succ]
      refine take_wanted (i := 1) (v := ?_) rfl (by kernel_rfl) (by kernel_rfl) (by kernel_rfl) (fun _ _ _ h => h) (by rfl) ?_ (by assumption) ?_
      rotate_left
      · intro w hSw
        (try dsimp only at hSw)
        go_simp
        (try with_reducible rfl)
      simp only [Act.put, List.setIfInBounds_toArray, List.set_cons_zero, List.set_cons_succ]
      refine take_wanted (i := 2) (v := ?_) rfl (by kernel_rfl) (by kernel_rfl) (by kernel_rfl) (fun _ _ _ h => h) (by rfl) ?_ (by assumption) ?_
      rotate_left
      · intro w hSw
        (try dsimp only at hSw)
        go_simp
        (try with_reducible rfl)
      simp only [Act.put, List.setIfInBounds_toArray, List.set_cons_zero, List.set_cons_succ]
      refine take_wanted (i := 3) (v := ?_) rfl (by kernel_rfl) (by kernel_rfl) (by kernel_rfl) (fun _ _ _ h => h) (by rfl) ?_ (by assumption) ?_
      rotate_left
      · intro w hSw
        (try dsimp only at hSw)
        go_simp
        (try with_reducible rfl)
      simp only [Act.put, List.setIfInBounds_toArray, List.set_cons_zero, List.set_cons_succ]
      refine take_wanted (i := 4) (v := ?_) rfl (by kernel_rfl) (by kernel_rfl) (by kernel_rfl) (fun _ _ _ h => h) (by rfl) ?_ (by assumption) ?_
      rotate_left
      · intro w hSw
        (try dsimp only at hSw)
        go_simp
        (try with_reducible rfl)
      simp only [Act.put, List.setIfInBounds_toArray, List.set_cons_zero, List.set_cons_succ]
      refine take_wanted (i := 5) (v := ?_) rfl (by kernel_rfl) (by kernel_rfl) (by kernel_rfl) (fun _ _ _ h => h) (by rfl) ?_ (by assumption) ?_
      rotate_left
      · intro w hSw
        (try dsimp only at hSw)
        go_simp
        (try with_reducible rfl)
      simp only [Act.put, List.setIfInBounds_toArray, List.set_cons_zero, List.set_cons_succ]
      refine take_wanted (i := 6) (v := ?_) rfl (by kernel_rfl) (by kernel_rfl) (by kernel_rfl) (fun _ _ _ h => h) (by rfl) ?_ (by assumption) ?_
      rotate_left
      · intro w hSw
        (try dsimp only at hSw)
        go_simp
        (try with_reducible rfl)
      simp only [Act.put, List.setIfInBounds_toArray, List.set_cons_zero, List.set_cons_succ]
      refine take_wanted (i := 7) (v := ?_) rfl (by kernel_rfl) (by kernel_rfl) (by kernel_rfl) (fun _ _ _ h => h) (by rfl) ?_ (by assumption) ?_
      rotate_left
      · intro w hSw
        (try dsimp only at hSw)
        go_simp
        (try with_reducible rfl)
      simp only [Act.put, List.setIfInBounds_toArray, List.set_cons_zero, List.set_cons_succ]
      refine take_wanted (i := 8) (v := .bool false) rfl (by kernel_rfl) (by kernel_rfl) (by kernel_rfl) (fun _ _ _ h => h) (by rfl) ?_ (by assumption) ?_
      · intro w hSw
        (try dsimp only at hSw)
        go_simp
        try simp
      simp only [Act.put, List.setIfInBounds_toArray, List.set_cons_zero, List.set_cons_succ]
      refine take_wanted (i := 9) (v := ?_) rfl (by kernel_rfl) (by kernel_rfl) (by kernel_rfl) (fun _ _ _ h => h) (by rfl) ?_ (by assumption) ?_
      rotate_left
      · intro w hSw
        (try dsimp only at hSw)
        go_simp
        (try with_reducible rfl)
      simp only [Act.put, List.setIfInBounds_toArray, List.set_cons_zero, List.set_cons_succ]
      refine take_wanted (i := 10) (v := ?_) rfl (by kernel_rfl) (by kernel_rfl) (by kernel_rfl) (fun _ _ _ h => h) (by rfl) ?_ (by assumption) ?_
      rotate_left
      · intro w hSw
        (try dsimp only at hSw)
        go_simp
        (try with_reducible rfl)
      simp only [Act.put, List.setIfInBounds_toArray, List.set_cons_zero, List.set_cons_succ]
      refine take_wanted (i := 11) (v := ?_) rfl (by kernel_rfl) (by kernel_rfl) (by kernel_rfl) (fun _ _ _ h => h) (by rfl) ?_ (by assumption) ?_
      rotate_left
      · intro w hSw
        (try dsimp only at hSw)
        go_simp
        (try with_reducible rfl)
      simp only [Act.put, List.setIfInBounds_toArray, List.set_cons_zero, List.set_cons_succ]
      refine take_wanted (i := 12) (v := .bool false) rfl (by kernel_rfl) (by kernel_rfl) (by kernel_rfl) (fun _ _ _ h => h) (by rfl) ?_ (by assumption) ?_
      · intro w hSw
        (try dsimp only at hSw)
        go_simp
        try simp
      simp only [Act.put, List.setIfInBounds_toArray, List.set_cons_zero, List.set_cons_succ]
      refine take_wanted (i := 13) (v := ?_) rfl (by kernel_rfl) (by kernel_rfl) (by kernel_rfl) (fun _ _ _ h => h) (by rfl) ?_ (by assumption) ?_
      rotate_left
      · intro w hSw
        (try dsimp only at hSw)
        go_simp
        (try with_reducible rfl)
      simp only [Act.put, List.setIfInBounds_toArray, List.set_cons_zero, List.set_cons_succ]
      refine take_wanted (i := 14) (v := ?_) rfl (by kernel_rfl) (by kernel_rfl) (by kernel_rfl) (fun _ _ _ h => h) (by rfl) ?_ (by assumption) ?_
      rotate_left
      · intro w hSw
        (try dsimp only at hSw)
        go_simp
        (try with_reducible rfl)
      simp only [Act.put, List.setIfInBounds_toArray, List.set_cons_zero, List.set_cons_succ]
      refine take_wanted (i := 15) (v := ?_) rfl (by kernel_rfl) (by kernel_rfl) (by kernel_rfl) (fun _ _ _ h => h) (by rfl) ?_ (by assumption) ?_
      rotate_left
      · intro w hSw
        (try dsimp only at hSw)
        go_simp
        (try with_reducible rfl)
      simp only [Act.put, List.setIfInBounds_toArray, List.set_cons_zero, List.set_cons_succ]
      refine take_wanted (i := 16) (v := ?_) rfl (by kernel_rfl) (by kernel_rfl) (by kernel_rfl) (fun _ _ _ h => h) (by rfl) ?_ (by assumption) ?_
      rotate_left
      · intro w hSw
        (try dsimp only at hSw)
        go_simp
        (try with_reducible rfl)
      simp only [Act.put, List.setIfInBounds_toArray, List.set_cons_zero, List.set_cons_succ]
      refine take_wanted (i := 17) (v := .bool false) rfl (by kernel_rfl) (by kernel_rfl) (by kernel_rfl) (fun _ _ _ h => h) (by rfl) ?_ (by assumption) ?_
      · intro w hSw
        (try dsimp only at hSw)
        go_simp
        try simp
      simp only [Act.put, List.setIfInBounds_toArray, List.set_cons_zero, List.set_cons_succ]
      refine take_wanted (i := 18) (v := ?_) rfl (by kernel_rfl) (by kernel_rfl) (by kernel_rfl) (fun _ _ _ h => h) (by rfl) ?_ (by assumption) ?_
      rotate_left
      · intro w hSw
        (try dsimp only at hSw)
        go_simp
        (try with_reducible rfl)
      simp only [Act.put, List.setIfInBounds_toArray, List.set_cons_zero, List.set_cons_succ]
      refine take_wanted (i := 19) (v := ?_) rfl (by kernel_rfl) (by kernel_rfl) (by kernel_rfl) (fun _ _ _ h => h) (by rfl) ?_ (by assumption) ?_
      rotate_left
      · intro w hSw
        (try dsimp only at hSw)
        go_simp
        (try with_reducible rfl)
      simp only [Act.put, List.setIfInBounds_toArray, List.set_cons_zero, List.set_cons_succ]
      refine take_wanted (i := 20) (v := ?_) rfl (by kernel_rfl) (by kernel_rfl) (by kernel_rfl) (fun _ _ _ h => h) (by rfl) ?_ (by assumption) ?_
      rotate_left
      · intro w hSw
        (try dsimp only at hSw)
        go_simp
        (try with_reducible rfl)
      simp only [Act.put, List.setIfInBounds_toArray, List.set_cons_zero, List.set_cons_succ]
      refine take_wanted (i := 21) (v := ?_) rfl (by kernel_rfl) (by kernel_rfl) (by kernel_rfl) (fun _ _ _ h => h) (by rfl) ?_ (by assumption) ?_
      rotate_left
      · intro w hSw
        (try dsimp only at hSw)
        go_simp
        (try with_reducible rfl)
      simp only [Act.put, List.setIfInBounds_toArray, List.set_cons_zero, List.set_cons_succ]
      refine take_wanted (i := 22) (v := ?_) rfl (by kernel_rfl) (by kernel_rfl) (by kernel_rfl) (fun _ _ _ h => h) (by rfl) ?_ (by assumption) ?_
      rotate_left
      · intro w hSw
        (try dsimp only at hSw)
        go_simp
        (try with_reducible rfl)
      simp only [Act.put, List.setIfInBounds_toArray, List.set_cons_zero, List.set_cons_succ]
      refine take_wanted (i := 23) (v := ?_) rfl (by kernel_rfl) (by kernel_rfl) (by kernel_rfl) (fun _ _ _ h => h) (by rfl) ?_ (by assumption) ?_
      rotate_left
      · intro w hSw
        (try dsimp only at hSw)
        go_simp
        (try with_reducible rfl)
      simp only [Act.put, List.setIfInBounds_toArray, List.set_cons_zero, List.set_cons_succ]
      refine take_wanted (i := 24) (v := ?_) rfl (by kernel_rfl) (by kernel_rfl) (by kernel_rfl) (fun _ _ _ h => h) (by rfl) ?_ (by assumption) ?_
      rotate_left
      · intro w hSw
        (try dsimp only at hSw)
        go_simp
        (try with_reducible rfl)
      simp only [Act.put, List.setIfInBounds_toArray, List.set_cons_zero, List.set_cons_succ]
      refine take_wanted (i := 26) (v := ?_) rfl (by kernel_rfl) (by kernel_rfl) (by kernel_rfl) (fun _ _ _ h => h) (by rfl) ?_ (by assumption) ?_
      rotate_left
      · intro w hSw
        (try dsimp only at hSw)
        go_simp
        (try with_reducible rfl)
      simp only [Act.put, List.setIfInBounds_toArray, List.set_cons_zero, List.set_cons_succ]
      refine take_wanted (i := 27) (v := ?_) rfl (by kernel_rfl) (by kernel_rfl) (by kernel_rfl) (fun _ _ _ h => h) (by rfl) ?_ (by assumption) ?_
      rotate_left
      · intro w hSw
        (try dsimp only at hSw)
        go_simp
        (try with_reducible rfl)
      simp only [Act.put, List.setIfInBounds_toArray, List.set_cons_zero, List.set_cons_succ]
      refine take_wanted (i := 28) (v := ?_) rfl (by kernel_rfl) (by kernel_rfl) (by kernel_rfl) (fun _ _ _ h => h) (by rfl) ?_ (by assumption) ?_
      rotate_left
      · intro w hSw
        (try dsimp only at hSw)
        go_simp
        (try with_reducible rfl)
      simp only [Act.put, List.setIfInBounds_toArray, List.set_cons_zero, List.set_cons_succ]
      refine take_wanted (i := 29) (v := ?_) rfl (by kernel_rfl) (by kernel_rfl) (by kernel_rfl) (fun _ _ _ h => h) (by rfl) ?_ (by assumption) ?_
      rotate_left
      · intro w hSw
        (try dsimp only at hSw)
        go_simp
        (try with_reducible rfl)
      simp only [Act.put, List.setIfInBounds_toArray, List.set_cons_zero, List.set_cons_succ]
      refine take_wanted (i := 30) (v := ?_) rfl (by kernel_rfl) (by kernel_rfl) (by kernel_rfl) (fun _ _ _ h => h) (by rfl) ?_ (by assumption) ?_
      rotate_left
      · intro w hSw
        (try dsimp only at hSw)
        go_simp
        (try with_reducible rfl)
      simp only [Act.put, List.setIfInBounds_toArray, List.set_cons_zero, List.set_cons_succ]
      refine take_only (i := 25) (by kernel_rfl) rfl (by rfl) (fun K hK => ?_)
      go_simp
      go_at_call 25
      refine (HSC.out _ hHeld.2.2).mono ?_
      rintro x w9 ⟨rfl, hb9⟩
      refine hK.out _ _ ?_ (fun hHeld => ?_)
      · exact P2_call hHeld hb9
      clear hK K
      refine take_only (i := 31) (by kernel_rfl) rfl (by rfl) (fun K hK => ?_)
      go_simp
      go_at_call 37
      refine (HSM.out _ hHeld.2.2).mono ?_
      rintro x w10 ⟨rfl, hb10⟩
      refine hK.out _ _ ?_ (fun hHeld => ?_)
      · exact P2_call hHeld hb10
      clear hK K
      refine take_wanted (i := 32) (v := .bool false) rfl (by kernel_rfl) (by kernel_rfl) (by kernel_rfl) (fun _ _ _ h => h) (by rfl) ?_ (by assumption) ?_
      · intro w hSw
        (try dsimp only at hSw)
        go_simp
        try simp
      simp only [Act.put, List.setIfInBounds_toArray, List.set_cons_zero, List.set_cons_succ]
      refine take_wanted (i := 33) (v := ?_) rfl (by kernel_rfl) (by kernel_rfl) (by kernel_rfl) (fun _ _ _ h => h) (by rfl) ?_ (by assumption) ?_
      rotate_left
      · intro w hSw
        (try dsimp only at hSw)
        go_simp
        (try with_reducible rfl)
      simp only [Act.put, List.setIfInBounds_toArray, List.set_cons_zero, List.set_cons_succ]
      refine wpAnyH_done (by kernel_rfl) ?_ _
      have HB7 := Lib.hid (HB6.out.trans (Below.mono hHeld.2.2 HB6.out.size))
      clear hHeld hS
      go_wp2
      go_roundw
      case rel => exact ⟨j + 1, by go_num, by omega, HB7.out⟩
      case measure => simp [intOf]; omega
    · have hj1 : ¬ (j : Int) < (l.length : Int) := by omega
      have HB9 := Lib.hid (HB4.out.trans (HBR.out.mono HB4.out.size))
      go_wp2
      go_ret
      exact ⟨rfl, HB9.out⟩
end Go.Proofs.Ytamfhndcekcloaa.D
