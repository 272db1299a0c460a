/-
  Own texts, joined: DiskD
-/
import Derived.Test.YtmfhipjceeijmaaGreatDoorBun39
import Derived.Test.YtmfhipjceeijmaaGreatDoorBun18

/-
  The landed disk's List: the names of its files, sorted; copied: a file with bytes of its own.
-/
namespace Go.Proofs.YtmfhipjceeijmaaGreatDoor.D
open Go.RowKit Go.Maps
open Go.Sort Go.Shelf
attribute [local go_sem] ext_Bd ext_Bl ext_Bt toList_B add_B size_B get_Bt

theorem Tryz.sortsA (m : Nat) : AnyZ.SortsIn Tryz.prog Tryz.sortedA_ren Fence.wide m :=
  ⟨fun blk off cap ss W hH hblk hsz => callsIn_wide.2 (AnyM.slices_Sort_string Tryz.sortA blk off cap ss W hH hblk hsz),
   fun p cap W => callsIn_wide.2 (AnyM.slices_Sort_string_none Tryz.sortA p cap W)⟩
theorem Tryz.keysOf (mb : Option Nat) (W : World) : CallsIn Fence.wide 5 Tryz.prog 71 #[.map mb] W fun e w' => e = .returned (.func (.func 100) #[] #[.pointer (some ⟨W.heap.size, 0, none⟩)]) ∧ w' = W.alloc (.cells #[.map mb] 99) :=
  AnyZ.keys_in Tryz.keysA Fence.wide 5 trivial rfl mb W
set_option maxHeartbeats 1000000 in
theorem Tryz.sortedOf {H : Type} (b nn : Nat) (D0 : DataW H) (R : Value → Option (DataW H × List MemPlace)) (w : World) (hown : w.ownsMap Tryz.prog 9 R b nn D0) (hmax : Maps.size D0 ≤ maxLen) (hbytes : Maps.size D0 * 16 ≤ 140737488355328) :
    CallsIn Fence.wide 5 Tryz.prog 70 #[.func (.func 100) #[] #[.pointer (some ⟨w.heap.size, 0, none⟩)]] (w.alloc (.cells #[.map (some b)] 99)) fun e w' => ∃ (v : Value) (ss : List (List UInt8)), e = .returned v ∧ ss.Perm (strKeys D0) ∧
      w'.ownsRow (w.alloc (.cells #[.map (some b)] 99)).heap.size 9 1 v ss.length ((ss.mergeSort (fun x y => decide (x ≤ y))).map encStr) ∧ (v = .slice none 0 0 ↔ ss = []) ∧ Below (w.alloc (.cells #[.map (some b)] 99)).heap.size (w.alloc (.cells #[.map (some b)] 99)) w' := by
  have hbl := hown.lt
  have hseq : SeqGives Fence.wide 2 Tryz.prog 100 #[.pointer (some ⟨w.heap.size, 0, none⟩)] encStr (fun ss => ss.Perm (strKeys D0)) (Maps.size D0) (w.alloc (.cells #[.map (some b)] 99)) :=
    AnyZ.keys_gives (ρ := Tryz.keysA_ren) { Tryz.keysA with } Fence.wide _ trivial rfl (by omega) w.heap.size b nn D0 _ (by simp) (by simp) (by
      obtain ⟨es, clock, hb, Ft, hs, hD⟩ := hown
      exact ⟨es, clock, (Below.heap_alloc _ _ b hbl).trans hb, Ft, hs, hD⟩)
  exact AnyZ.sorted_in Tryz.sortedA Fence.wide 5 trivial trivial trivial trivial rfl (by omega) (Tryz.sortsA _) (enters_of Tryz.func99 (by kernel_rfl) rfl) 100 #[.pointer (some ⟨w.heap.size, 0, none⟩)] trivial (enters_of Tryz.func100 (by kernel_rfl) rfl) _ _ hmax hbytes _ hseq
section
variable {bs : Nat} {w : World} {p m room : Nat} {l : List F} {loc : Tx → Value}
theorem enc_str : encStr = fun x : Tx => Value.string (B x) := rfl
set_option maxHeartbeats 2000000 in
set_option maxRecDepth 100000 in
theorem list_l (h : DA bs w p m room l loc) (hs : Sorted l) (hl : l.length ≤ 1000) :
    Calls Tryz.prog 32 #[dP p] w fun x w' => (∃ v, x = .returned v ∧ Reads w' v (strCells (l.map F.name))) ∧ Below w.heap.size w w' := by
  refine (callsIn_wide (n := 6)).1 ?_
  obtain ⟨-, c1⟩ := h.cells
  have HS : Hid (∀ ss : List Tx, ss.Perm (strKeys (mapD (eD loc) l)) → (ss.mergeSort (fun x y => decide (x ≤ y))).map encStr = strCells (l.map F.name) ∧ ss.length = (strCells (l.map F.name)).length) := Lib.hid fun ss hp => by
    rw [keys_mapD] at hp
    have := sort_names hs hp
    refine ⟨?_, ?_⟩
    · show (ss.mergeSort leB).map encStr = _
      rw [this]; rfl
    · rw [hp.length_eq]; simp [strCells]
  have hsz : Maps.size (mapD (eD loc) l) = l.length := size_mapD _ l
  have cS := Tryz.sortedOf m l.length (mapD (eD loc) l) Rv w h.map (by rw [hsz]; unfold maxLen; omega) (by rw [hsz]; omega)
  have cK := Tryz.keysOf (some m) w
  have hfK : Fence.wide.fn 71 := trivial
  have hfS : Fence.wide.fn 70 := trivial
  clear h hsz
  refine callsIn_of_wp Tryz.func32 rfl trivial ?_ rfl
  simp only [Tryz.ntmps32, List.size_toArray, List.length_cons, List.length_nil, Nat.reduceAdd, Nat.reduceSub, Array.replicate_succ, Array.replicate_zero, List.push_toArray, List.append_toArray, List.nil_append, List.cons_append]
  gi_wp2_with (first
    | (gi_at_call 71; refine cK.mono ?_; rintro e w' ⟨rfl, rfl⟩)
    | (gi_at_call 70; refine cS.mono ?_; rintro e w' ⟨v, ss, rfl, hS, hrow, hnil, hb⟩))
  go_ret
  obtain ⟨e1, e2⟩ := HS.out ss hS
  rw [e1] at hrow
  exact ⟨⟨v, rfl, reads_own hrow⟩, ((Below.refl _ w).alloc (Nat.le_refl _) _).trans (hb.mono (by simp))⟩
end
theorem byte_one (d : Tx) : ∀ u ∈ Lib.byteCells d, u.oneCell' = true := fun u hu => by
  simp only [Lib.byteCells, List.mem_map] at hu
  obtain ⟨b, _, rfl⟩ := hu
  rfl
theorem own_base {w : World} {bs b2 n : Nat} {v : Value} {xs : List Value} (h : w.ownsRow bs 5 1 v n xs) (hb : b2 ≤ bs) : w.ownsRow b2 5 1 v n xs := by
  refine ⟨h.1, ?_⟩
  rcases h.2 with h2 | ⟨g, cap, cur, hv, hg, hr⟩
  · exact .inl h2
  · exact .inr ⟨g, cap, cur, hv, Nat.le_trans hb hg, hr⟩
end Go.Proofs.YtmfhipjceeijmaaGreatDoor.D
