/-
  The landed disk's List: the names of its files, sorted; copied: a file with bytes of its own.
-/
import Derived.Test.YtamfhndcekcloaaDiskLaid
import Derived.Test.YtamfhndcekcloaaDiskB
namespace Go.Proofs.Ytamfhndcekcloaa.D
open Go.RowKit Go.Maps Go.Sort Go.Shelf
attribute [local go_sem] ext_Bd ext_Bl ext_Bt toList_B add_B size_B get_Bt

theorem Try.sortsA (m : Nat) : AnyZ.SortsIn Try.prog Try.sortedA_ren Fence.wide m :=
  ⟨fun blk off cap ss W hH hblk hsz => callsIn_wide.2 (AnyM.slices_Sort_string Try.sortA blk off cap ss W hH hblk hsz),
   fun p cap W => callsIn_wide.2 (AnyM.slices_Sort_string_none Try.sortA p cap W)⟩
theorem Try.keysOf (mb : Option Nat) (W : World) : CallsIn Fence.wide 5 Try.prog 44 #[.map mb] W fun e w' => e = .returned (.func (.func 51) #[] #[.pointer (some ⟨W.heap.size, 0, none⟩)]) ∧ w' = W.alloc (.cells #[.map mb] 55) :=
  AnyZ.keys_in Try.keysA Fence.wide 5 trivial rfl mb W
set_option maxHeartbeats 1000000 in
theorem Try.sortedOf {H : Type} (b nn : Nat) (D0 : DataW H) (R : Value → Option (DataW H × List MemPlace)) (w : World) (hown : w.ownsMap Try.prog 9 R b nn D0) (hmax : Maps.size D0 ≤ maxLen) (hbytes : Maps.size D0 * 16 ≤ 140737488355328) :
    CallsIn Fence.wide 5 Try.prog 43 #[.func (.func 51) #[] #[.pointer (some ⟨w.heap.size, 0, none⟩)]] (w.alloc (.cells #[.map (some b)] 55)) fun e w' => ∃ (v : Value) (ss : List (List UInt8)), e = .returned v ∧ ss.Perm (strKeys D0) ∧
      w'.ownsRow (w.alloc (.cells #[.map (some b)] 55)).heap.size 9 1 v ss.length ((ss.mergeSort (fun x y => decide (x ≤ y))).map encStr) ∧ (v = .slice none 0 0 ↔ ss = []) ∧ Below (w.alloc (.cells #[.map (some b)] 55)).heap.size (w.alloc (.cells #[.map (some b)] 55)) w' := by
  have hbl := hown.lt
  have hseq : SeqGives Fence.wide 2 Try.prog 51 #[.pointer (some ⟨w.heap.size, 0, none⟩)] encStr (fun ss => ss.Perm (strKeys D0)) (Maps.size D0) (w.alloc (.cells #[.map (some b)] 55)) :=
    AnyZ.keys_gives (ρ := Try.keysA_ren) { Try.keysA with } Fence.wide _ trivial rfl (by omega) w.heap.size b nn D0 _ (by simp) (by simp) (by
      obtain ⟨es, clock, hb, Ft, hs, hD⟩ := hown
      exact ⟨es, clock, (Below.heap_alloc _ _ b hbl).trans hb, Ft, hs, hD⟩)
  exact AnyZ.sorted_in Try.sortedA Fence.wide 5 trivial trivial trivial trivial rfl (by omega) (Try.sortsA _) (enters_of Try.func50 (by kernel_rfl) rfl) 51 #[.pointer (some ⟨w.heap.size, 0, none⟩)] trivial (enters_of Try.func51 (by kernel_rfl) rfl) _ _ hmax hbytes _ hseq
section
variable {bs : Nat} {w : World} {p m room : Nat} {l : List F} {loc : Tx → Value}
theorem enc_str : encStr = fun x : Tx => Value.string (B x) := rfl
set_option maxHeartbeats 2000000 in
set_option maxRecDepth 100000 in
theorem list_l (h : DA bs w p m room l loc) (hs : Sorted l) (hl : l.length ≤ 1000) :
    Calls Try.prog 23 #[dP p] w fun x w' => (∃ v, x = .returned v ∧ Reads w' v (strCells (l.map F.name))) ∧ Below w.heap.size w w' := by
  refine (callsIn_wide (n := 6)).1 ?_
  obtain ⟨-, c1⟩ := h.cells
  have HS : Hid (∀ ss : List Tx, ss.Perm (strKeys (mapD (eD loc) l)) → (ss.mergeSort (fun x y => decide (x ≤ y))).map encStr = strCells (l.map F.name) ∧ ss.length = (strCells (l.map F.name)).length) := Lib.hid fun ss hp => by
    rw [keys_mapD] at hp
    have := sort_names hs hp
    refine ⟨?_, ?_⟩
    · show (ss.mergeSort leB).map encStr = _
      rw [this]; rfl
    · rw [hp.length_eq]; simp [strCells]
  have hsz : Maps.size (mapD (eD loc) l) = l.length := size_mapD _ l
  have cS := Try.sortedOf m l.length (mapD (eD loc) l) Rv w h.map (by rw [hsz]; unfold maxLen; omega) (by rw [hsz]; omega)
  have cK := Try.keysOf (some m) w
  have hfK : Fence.wide.fn 44 := trivial
  have hfS : Fence.wide.fn 43 := trivial
  clear h hsz
  refine callsIn_of_wp Try.func23 rfl trivial ?_ rfl
  simp only [Try.ntmps23, List.size_toArray, List.length_cons, List.length_nil, Nat.reduceAdd, Nat.reduceSub, Array.replicate_succ, Array.replicate_zero, List.push_toArray, List.append_toArray, List.nil_append, List.cons_append]
  gi_wp2_with (first
    | (gi_at_call 44; refine cK.mono ?_; rintro e w' ⟨rfl, rfl⟩)
    | (gi_at_call 43; refine cS.mono ?_; rintro e w' ⟨v, ss, rfl, hS, hrow, hnil, hb⟩))
  go_ret
  obtain ⟨e1, e2⟩ := HS.out ss hS
  rw [e1] at hrow
  exact ⟨⟨v, rfl, reads_own hrow⟩, ((Below.refl _ w).alloc (Nat.le_refl _) _).trans (hb.mono (by simp))⟩
end
theorem byte_one (d : Tx) : ∀ u ∈ Lib.byteCells d, u.oneCell' = true := fun u hu => by
  simp only [Lib.byteCells, List.mem_map] at hu
  obtain ⟨b, _, rfl⟩ := hu
  rfl
theorem own_base {w : World} {bs b2 n : Nat} {v : Value} {xs : List Value} (h : w.ownsRow bs 5 1 v n xs) (hb : b2 ≤ bs) : w.ownsRow b2 5 1 v n xs := by
  refine ⟨h.1, ?_⟩
  rcases h.2 with h2 | ⟨g, cap, cur, hv, hg, hr⟩
  · exact .inl h2
  · exact .inr ⟨g, cap, cur, hv, Nat.le_trans hb hg, hr⟩
/-- slices.Clone of bytes. -/
theorem clone_l {bs : Nat} (a : Option Addr) (c : Nat) (d : Tx) (w : World) (hr : w.ownsRow bs 5 1 (.slice a d.length c) d.length (Lib.byteCells d)) (hl : d.length ≤ 100000000000) :
    Calls Try.prog 45 #[.slice a d.length c] w fun x w' => (∃ a2 c2, x = .returned (.slice a2 d.length c2) ∧ w'.ownsRow w.heap.size 5 1 (.slice a2 d.length c2) d.length (Lib.byteCells d)) ∧ Below w.heap.size w w' := by
  rcases hr.2 with ⟨hv, h0⟩ | ⟨g, cap, cur, hv, hb, hg, h1, h2, h3, h4⟩
  · have hd : d = [] := List.length_eq_zero_iff.1 h0
    subst hd
    cases hv
    have := AnyE.slices_Clone_nil Try.cloneA 0 0 w
    change Calls Try.prog 45 _ _ _ at this
    refine this.mono ?_
    rintro x w' ⟨rfl, rfl⟩
    exact ⟨⟨none, 0, rfl, World.ownsRow_nil w' _ _ _⟩, Below.refl _ _⟩
  · cases hv
    obtain ⟨i0, hi, hz0, hz1, hz2⟩ := info_parts Try.infoByte
    have := AnyE.slices_Clone Try.cloneA i0 (.int .u8 0) 1 1 hi hz0 hz1 hz2 rfl (by decide) (fun w => Try.sizeOf5 w) g 0 d.length c (Lib.byteCells d) w (by simp [Lib.byteCells]) (by unfold maxLen; omega) (by omega)
      (fun j u hj => by
        rw [Nat.zero_add, blkC hg]
        have hlt := (List.getElem?_eq_some_iff.1 hj).1
        rw [← h4, List.getElem?_take_of_lt (by simpa [Lib.byteCells] using hlt)] at hj
        simpa using hj) (byte_one d)
    change Calls Try.prog 45 _ _ _ at this
    refine this.mono ?_
    rintro x w' ⟨v', rfl, hown, -, hbl⟩
    obtain ⟨a2, c2, rfl⟩ := own_form hown
    exact ⟨⟨a2, c2, rfl, hown⟩, hbl⟩
set_option maxHeartbeats 2000000 in
set_option maxRecDepth 100000 in
theorem copied_l {bs : Nat} (a : Option Addr) (c : Nat) (z : Int) (d : Tx) (w : World) (hr : w.ownsRow bs 5 1 (.slice a d.length c) d.length (Lib.byteCells d)) (hl : d.length ≤ 100000000000) :
    Calls Try.prog 28 #[.agg #[.slice a d.length c, .int .i64 z]] w fun x w' => (∃ a2 c2, x = .returned (.agg #[.slice a2 d.length c2, .int .i64 z]) ∧ w'.ownsRow w.heap.size 5 1 (.slice a2 d.length c2) d.length (Lib.byteCells d)) ∧ Below w.heap.size w w' := by
  have n3 := two_new w (.cells #[.slice a d.length c, .int .i64 z] 62) (.cells #[.slice none 0 0, .int .i64 0] 62)
  have HN := Lib.hid n3
  have HR := Lib.hid (own_below hr n3.2.2)
  have HSZ : Hid (((w.alloc (.cells #[.slice a d.length c, .int .i64 z] 62)).alloc (.cells #[.slice none 0 0, .int .i64 0] 62)).heap.size = w.heap.size + 2) := Lib.hid (by simp)
  clear n3 hr
  go_enter Try.func28, Try.ntmps28
  go_wp2_with fail
  refine (clone_l a c d _ HR.out hl).mono ?_
  rintro x w3 ⟨⟨a2, c2, rfl, hown⟩, hb3⟩
  obtain ⟨m0, m1, e0, e1, f0, f1, e2, e3⟩ := with_mid (w3 := w3) (row := none) ⟨HN.out.1, HN.out.2.1⟩ (fun _ h => by cases h) (grown_below hb3 none)
  have HM := Lib.hid m1
  have HO := Lib.hid hown
  have HB := Lib.hid (HN.out.2.2.trans (hb3.mono HN.out.2.2.size))
  clear m0 m1 hown hb3 HN HR
  go_wp2
  have HE := Lib.hid (res_two (a := .slice a2 d.length c2) (b := .int .i64 z) (x := .slice none 0 0) (y := .int .i64 0) (t := 62) (g := w.heap.size + 1) (w := w3.setCell ⟨w.heap.size, 0, none⟩ (.slice a2 d.length c2)) (by rw [set_off (show w.heap.size + 1 ≠ w.heap.size by omega)]; exact HM.out))
  have HG := Lib.hid ((((HB.out.setCell (p := ⟨w.heap.size, 0, none⟩) (Nat.le_refl _) (.slice a2 d.length c2))).setCell (p := ⟨w.heap.size + 1, 0, none⟩) (Nat.le_succ _) (.slice a2 d.length c2)).setCell (p := ⟨w.heap.size + 1, 1, none⟩) (Nat.le_succ _) (.int .i64 z))
  have HO9 := Lib.hid (own_base (b2 := w.heap.size) (row_ext (w' := ((w3.setCell ⟨w.heap.size, 0, none⟩ (.slice a2 d.length c2)).setCell ⟨w.heap.size + 1, 0, none⟩ (.slice a2 d.length c2)).setCell ⟨w.heap.size + 1, 1, none⟩ (.int .i64 z)) HO.out fun k hk => by
    have := (own_blk HO.out hk).1
    have := HSZ.out
    have hk2 : k ≠ w.heap.size ∧ k ≠ w.heap.size + 1 := by omega
    rw [set_off hk2.2, set_off hk2.2, set_off hk2.1]) (by have := HSZ.out; omega))
  generalize ((w3.setCell ⟨w.heap.size, 0, none⟩ (.slice a2 d.length c2)).setCell ⟨w.heap.size + 1, 0, none⟩ (.slice a2 d.length c2)).setCell ⟨w.heap.size + 1, 1, none⟩ (.int .i64 z) = w9 at *
  obtain ⟨k0, k1⟩ := HE.out
  exact bodyPost_ret (v := .agg #[.slice a2 d.length c2, .int .i64 z]) (by simp [results, Try.results28, go_sem, k0, k1]) rfl ⟨⟨a2, c2, rfl, HO9.out⟩, HG.out⟩
end Go.Proofs.Ytamfhndcekcloaa.D
