/-
  Own texts, joined: DiskRef DiskRef2 DiskRef3
-/
import Derived.Test.YtmfhipjceeijmaaGreatDoorBun5
import Derived.Test.YtmfhipjceeijmaaGreatDoorBun9
import Derived.Deep.RegionHeld3

/-
  Walks of the document's disk (package bucketlineref8): where it lies, what only reads it.
-/
namespace Go.Proofs.YtmfhipjceeijmaaGreatDoor.D
open Go.RowKit
attribute [local go_sem] ext_Bd ext_Bl ext_Bt toList_B add_B size_B get_Bt
variable {bs : Nat}

def cellsF (f : F) : List Value := [.string (B f.name), .string (B f.data), .int .i64 (f.syn : Int)]
def fileCells : List F → List Value
  | [] => []
  | f :: l => .string (B f.name) :: .string (B f.data) :: .int .i64 (f.syn : Int) :: fileCells l
theorem fileCells_len : ∀ l : List F, (fileCells l).length = l.length * 3
  | [] => rfl
  | f :: l => by simp [fileCells, fileCells_len l]; omega
theorem fileCells_app : ∀ l k : List F, fileCells (l ++ k) = fileCells l ++ fileCells k
  | [], _ => rfl
  | f :: l, k => by simp [fileCells, fileCells_app l k]
theorem fileCells_at : ∀ {l : List F} {i : Nat} (h : i < l.length), (fileCells l)[i * 3]? = some (.string (B l[i].name)) ∧ (fileCells l)[i * 3 + 1]? = some (.string (B l[i].data)) ∧ (fileCells l)[i * 3 + 2]? = some (.int .i64 (l[i].syn : Int))
  | f :: l, 0, _ => ⟨rfl, rfl, rfl⟩
  | f :: l, i + 1, h => by
    have := fileCells_at (l := l) (i := i) (by simpa using h)
    have e : (i + 1) * 3 = i * 3 + 1 + 1 + 1 := by omega
    rw [e]
    simp only [fileCells, List.getElem?_cons_succ, List.getElem_cons_succ]
    exact this
/-- The document's disk in block p: its room and its files. -/
def MAt (bs : Nat) (w : World) (p : Nat) (room : Int) (l : List F) : Prop :=
  bs ≤ p ∧ ∃ v, w.heap[p]? = some (.cells #[v, .int .i64 room] 104 (0, 0)) ∧ w.ownsRow bs 114 3 v l.length (fileCells l)
/-- What a walk reads of it. -/
structure MRd (w : World) (p : Nat) (room : Int) (l : List F) (a : Option Addr) (cap : Nat) : Prop where
  c0 : w.cell? ⟨p, 0, none⟩ = some (.slice a l.length cap)
  c1 : w.cell? ⟨p, 1, none⟩ = some (.int .i64 room)
  row : ∀ i (h : i < l.length), ∃ b off, a = some ⟨b, off, none⟩ ∧ w.cell? ⟨b, off + i * 3, none⟩ = some (.string (B l[i].name)) ∧ w.cell? ⟨b, off + i * 3 + 1, none⟩ = some (.string (B l[i].data)) ∧ w.cell? ⟨b, off + i * 3 + 2, none⟩ = some (.int .i64 (l[i].syn : Int))
theorem MAt.rd {w : World} {p : Nat} {room : Int} {l : List F} (h : MAt bs w p room l) : ∃ a cap, MRd w p room l a cap := by
  obtain ⟨_, v, hp, hr⟩ := h
  have hc : ∀ j, w.cell? ⟨p, j, none⟩ = #[v, .int .i64 room][j]? := fun j => by simp [World.cell?, hp]
  rcases hr.2 with ⟨rfl, h0⟩ | ⟨g, cap, cur, rfl, _, hg, hn, _, hsz, ht⟩
  · exact ⟨none, 0, by rw [hc 0, h0]; rfl, by rw [hc 1]; rfl, fun i hi => by omega⟩
  · refine ⟨some ⟨g, 0, none⟩, cap, by rw [hc 0]; rfl, by rw [hc 1]; rfl, fun i hi => ⟨g, 0, rfl, ?_⟩⟩
    have hcell : ∀ j, j < l.length * 3 → w.cell? ⟨g, j, none⟩ = (fileCells l)[j]? := fun j hj => by
      rw [← ht, List.getElem?_take_of_lt hj]
      simp [World.cell?, hg]
    obtain ⟨h1, h2, h3⟩ := fileCells_at hi
    rw [Nat.zero_add]
    exact ⟨by rw [hcell _ (by omega), h1], by rw [hcell _ (by omega), h2], by rw [hcell _ (by omega), h3]⟩
def isAt (n : Tx) (l : List F) : Bool := (find n l).isSome
theorem isAt_yes {n : Tx} {l : List F} {k : Nat} (hs : Sorted l) (hk : k = idx n l) (h : k < l.length) (he : l[k].name = n) : isAt n l = true := by
  subst hk; unfold isAt; rw [find_at hs h he]; rfl
theorem isAt_no {n : Tx} {l : List F} {k : Nat} (hs : Sorted l) (hk : k = idx n l) (he : ∀ h : k < l.length, l[k].name ≠ n) : isAt n l = false := by
  subst hk; unfold isAt; rw [find_off hs he]; rfl

set_option maxHeartbeats 2000000 in
set_option maxRecDepth 100000 in
theorem mFind_l (p : Nat) (room : Int) (l : List F) (n : Tx) (k : Nat) (is : Bool) (w : World) (hm : MAt bs w p room l) (hs : Sorted l) (hl : l.length ≤ 1000) (HK : Hid (idx n l = k)) (HI : Hid (isAt n l = is)) :
    Calls Tryz.prog 67 #[.pointer (some ⟨p, 0, none⟩), .string (B n)] w fun x w' => x = .returned (.tuple #[.int .i64 (k : Int), .bool is]) ∧ sQuiet w w' := by
  obtain ⟨a, cap, hr⟩ := hm.rd
  have HS := Lib.hid hs
  have c0 := hr.c0
  have HR := Lib.hid hr.row
  clear hm hr hs
  go_enter Tryz.func67, Tryz.ntmps67
  go_wp2
  go_loop [6] (fun i => ∃ j : Nat, i = .int .i64 j ∧ j ≤ l.length ∧ Hid (j ≤ idx n l)) (fun i => l.length - (intOf i).toNat)
  case atStart => exact ⟨0, rfl, Nat.zero_le _, Lib.hid (Nat.zero_le _)⟩
  case round =>
    obtain ⟨j, rfl, hj, HJ⟩ := hrel
    by_cases hlt : j < l.length
    · have hj1 : (j : Int) < (l.length : Int) := by omega
      obtain ⟨b, off, rfl, x0, -, -⟩ := HR.out j hlt
      have HN : Hid (lt l[j].name n = true → j + 1 ≤ idx n l) := Lib.hid fun h => idx_next hlt HJ.out h
      have HE : Hid (lt l[j].name n = false → j = idx n l) := Lib.hid fun h => idx_stop hlt HJ.out h
      have HY : Hid (j = idx n l → l[j].name = n → is = true) := Lib.hid fun h he => by rw [← HI.out]; exact isAt_yes HS.out h hlt he
      have HX : Hid (j = idx n l → l[j].name ≠ n → is = false) := Lib.hid fun h he => by rw [← HI.out]; exact isAt_no HS.out h fun _ => he
      generalize l[j].name = nm at x0 HN HE HY HX
      cases hq : lt nm n
      · have hq2 : Op.bytesLess nm n = false := hq
        have hjk := HE.out hq
        have EJK := Lib.hid (hjk.trans HK.out)
        by_cases he : nm = n
        · have HT := Lib.hid (HY.out hjk he)
          subst he
          clear hjk HN HE HY HX hq
          go_wp2
          go_quiet (fail)
          go_wp2
          go_ret2
          rw [HT.out, EJK.out]
          exact ⟨rfl, _, rfl⟩
        · have HT := Lib.hid (HX.out hjk he)
          have heb : (nm == n) = false := beq_eq_false_iff_ne.2 he
          clear hjk HN HE HY HX hq he
          go_wp2
          go_quiet (fail)
          go_wp2
          go_ret2
          rw [HT.out, EJK.out]
          exact ⟨rfl, _, rfl⟩
      · have hq2 : Op.bytesLess nm n = true := hq
        have HN2 := Lib.hid (HN.out hq)
        clear HN HE HY HX hq
        go_wp2
        go_round
        case rel => exact ⟨j + 1, by go_num, by omega, HN2⟩
        case measure => simp [intOf]; omega
    · have hj1 : ¬ (j : Int) < (l.length : Int) := by omega
      have hjk := idx_end hlt HJ.out
      have EJK := Lib.hid (hjk.trans HK.out)
      have HT := Lib.hid (show is = false by rw [← HI.out]; exact isAt_no HS.out hjk fun h => absurd h hlt)
      clear hjk
      go_wp2
      go_quiet (fail)
      go_wp2
      go_ret2
      rw [HT.out, EJK.out]
      exact ⟨rfl, _, rfl⟩
end Go.Proofs.YtmfhipjceeijmaaGreatDoor.D

/-
  Walks of the document's disk (package bucketlineref8): Used, Read, Synced, List.
-/
namespace Go.Proofs.YtmfhipjceeijmaaGreatDoor.D
open Go.RowKit
attribute [local go_sem] ext_Bd ext_Bl ext_Bt toList_B add_B size_B get_Bt
variable {bs : Nat}

theorem MAt.quiet {w w' : World} {p : Nat} {room : Int} {l : List F} (h : MAt bs w p room l) (hq : sQuiet w w') : MAt bs w' p room l := by
  obtain ⟨n, rfl⟩ := hq
  exact h
theorem blk_lt {w : World} {k : Nat} {o : Obj} (h : w.heap[k]? = some o) : k < w.heap.size := (Array.getElem?_eq_some_iff.1 h).1
theorem row_keep {w w' : World} {base : Nat} {e : TypeId} {s n : Nat} {v : Value} {xs : List Value} (h : w.ownsRow base e s v n xs) (hk : ∀ (k : Nat) (c : Array Value), w.heap[k]? = some (Obj.cells c e (0, 0)) → w'.heap[k]? = some (Obj.cells c e (0, 0))) : w'.ownsRow base e s v n xs := by
  obtain ⟨h1, h2⟩ := h
  refine ⟨h1, ?_⟩
  rcases h2 with h2 | ⟨g, cap, cur, hv, hb, hg, hr⟩
  · exact .inl h2
  · exact .inr ⟨g, cap, cur, hv, hb, hk g cur hg, hr⟩
theorem MAt.below {w w' : World} {p : Nat} {room : Int} {l : List F} (h : MAt bs w p room l) (hb : Below w.heap.size w w') : MAt bs w' p room l := by
  obtain ⟨hlo, v, hp, hr⟩ := h
  exact ⟨hlo, v, by rw [hb.block p (blk_lt hp)]; exact hp, row_keep hr fun k c hk => by rw [hb.block k (blk_lt hk)]; exact hk⟩
theorem used_next : ∀ {l : List F} {j : Nat} (h : j < l.length), used (l.take (j + 1)) = used (l.take j) + l[j].data.length
  | f :: l, 0, _ => by simp [used]
  | f :: l, j + 1, h => by
    have := used_next (l := l) (j := j) (by simpa using h)
    simp only [List.take_succ_cons, used, List.getElem_cons_succ]
    omega
theorem used_take : ∀ (l : List F) (j : Nat), used (l.take j) ≤ used l
  | [], j => by simp
  | f :: l, 0 => by simp [used]
  | f :: l, j + 1 => by
    have := used_take l j
    simp only [List.take_succ_cons, used]
    omega

set_option maxHeartbeats 2000000 in
set_option maxRecDepth 100000 in
theorem mUsed_l (p : Nat) (room : Int) (l : List F) (n : Nat) (w : World) (hm : MAt bs w p room l) (hl : l.length ≤ 1000) (hu : used l ≤ 4000000000) (HU : Hid (used l = n)) :
    Calls Tryz.prog 35 #[.pointer (some ⟨p, 0, none⟩)] w fun x w' => x = .returned (.int .i64 (n : Int)) ∧ sQuiet w w' := by
  obtain ⟨a, cap, hr⟩ := hm.rd
  have c0 := hr.c0
  have HR := Lib.hid hr.row
  clear hm hr
  go_enter Tryz.func35, Tryz.ntmps35
  go_wp2
  go_loop [3, 4] (fun z i => ∃ j m : Nat, i = .int .i64 j ∧ z = .int .i64 m ∧ j ≤ l.length ∧ m ≤ 4000000000 ∧ Hid (m = used (l.take j))) (fun _ i => l.length - (intOf i).toNat)
  case atStart => exact ⟨0, 0, rfl, rfl, Nat.zero_le _, Nat.zero_le _, Lib.hid (by simp [used])⟩
  case round =>
    obtain ⟨j, m, rfl, rfl, hj, hmb, HM⟩ := hrel
    by_cases hlt : j < l.length
    · have hj1 : (j : Int) < (l.length : Int) := by omega
      obtain ⟨b, off, rfl, -, x1, -⟩ := HR.out j hlt
      have hn := used_next hlt
      have ht := used_take l (j + 1)
      rw [hn, ← HM.out] at ht
      have HN : Hid (m + l[j].data.length = used (l.take (j + 1))) := Lib.hid (by rw [hn, ← HM.out])
      clear hn HM
      have hb : l[j].data.length ≤ 4000000000 := by omega
      have hmb2 : m + l[j].data.length ≤ 4000000000 := by omega
      clear ht
      generalize l[j].data = dt at x1 HN hb hmb2
      go_wp2
      go_round
      case rel => exact ⟨j + 1, m + dt.length, by go_num, by go_num, by omega, hmb2, HN⟩
      case measure => simp [intOf]; omega
    · have hj1 : ¬ (j : Int) < (l.length : Int) := by omega
      have HE := Lib.hid (show m = n by rw [HM.out, List.take_of_length_le (by omega), HU.out])
      clear HM
      go_wp2
      go_ret
      rw [HE.out]
      exact ⟨rfl, 0, rfl⟩

/-- What is found, and where. -/
theorem found_at {p : Nat} {room : Int} {l : List F} {n : Tx} {f : F} {w : World} {a : Option Addr} {cap : Nat} (hs : Sorted l) (hr : MRd w p room l a cap) (hf : find n l = some f) : idx n l < l.length ∧ ∃ b off, a = some ⟨b, off, none⟩ ∧ w.cell? ⟨b, off + idx n l * 3, none⟩ = some (.string (B f.name)) ∧ w.cell? ⟨b, off + idx n l * 3 + 1, none⟩ = some (.string (B f.data)) ∧ w.cell? ⟨b, off + idx n l * 3 + 2, none⟩ = some (.int .i64 (f.syn : Int)) := by
  obtain ⟨h, e⟩ := idx_of hs hf
  obtain ⟨b, off, e1, x0, x1, x2⟩ := hr.row _ h
  rw [e] at x0 x1 x2
  exact ⟨h, b, off, e1, x0, x1, x2⟩

set_option maxHeartbeats 2000000 in
set_option maxRecDepth 100000 in
theorem mRead_l (p : Nat) (room : Int) (l : List F) (n : Tx) (s : Tx) (e : Nat) (w : World) (hm : MAt bs w p room l) (hs : Sorted l) (hl : l.length ≤ 1000) (H : Hid (read n l = (s, e))) :
    Calls Tryz.prog 37 #[.pointer (some ⟨p, 0, none⟩), .string (B n)] w fun x w' => x = .returned (.tuple #[.string (B s), .int .i64 (e : Int)]) ∧ sQuiet w w' := by
  obtain ⟨k, HK⟩ : ∃ k, Hid (idx n l = k) := ⟨_, Lib.hid rfl⟩
  have HM := Lib.hid hm
  have HS := Lib.hid hs
  clear hm hs
  cases hf : find n l with
  | none =>
    have HE : Hid (s = [] ∧ e = 6) := Lib.hid (by
      have := H.out
      unfold read at this
      rw [hf] at this
      exact ⟨(congrArg Prod.fst this).symm, (congrArg Prod.snd this).symm⟩)
    have HI : Hid (isAt n l = false) := Lib.hid (by unfold isAt; rw [hf]; rfl)
    clear hf
    go_enter Tryz.func37, Tryz.ntmps37
    go_wp2_with fail
    refine (mFind_l p room l n k false _ HM.out HS.out hl HK HI).mono ?_
    rintro x w1 ⟨rfl, q, rfl⟩
    go_wp2
    go_ret2
    rw [HE.out.1, HE.out.2]
    exact ⟨rfl, _, rfl⟩
  | some f =>
    have HE : Hid (s = f.data ∧ e = 0) := Lib.hid (by
      have := H.out
      unfold read at this
      rw [hf] at this
      exact ⟨(congrArg Prod.fst this).symm, (congrArg Prod.snd this).symm⟩)
    have HI : Hid (isAt n l = true) := Lib.hid (by unfold isAt; rw [hf]; rfl)
    obtain ⟨a, cap, hr⟩ := HM.out.rd
    obtain ⟨hlt, b, off, rfl, -, x1, -⟩ := found_at HS.out hr hf
    rw [HK.out] at hlt x1
    have HC0 := Lib.hid hr.c0
    have HX1 := Lib.hid x1
    clear hf hr x1
    have hk1 : (k : Int) < (l.length : Int) := by omega
    go_enter Tryz.func37, Tryz.ntmps37
    go_wp2_with fail
    refine (mFind_l p room l n k true _ HM.out HS.out hl HK HI).mono ?_
    rintro x w1 ⟨rfl, q, rfl⟩
    have c0 : (w.drewN q).cell? ⟨p, 0, none⟩ = some (.slice (some ⟨b, off, none⟩) l.length cap) := HC0.out
    have x1 : (w.drewN q).cell? ⟨b, off + k * 3 + 1, none⟩ = some (.string (B f.data)) := HX1.out
    go_wp2
    go_ret2
    rw [HE.out.1, HE.out.2]
    exact ⟨rfl, _, rfl⟩
set_option maxHeartbeats 2000000 in
set_option maxRecDepth 100000 in
theorem mSynced_l (p : Nat) (room : Int) (l : List F) (n : Tx) (e : Nat) (w : World) (hm : MAt bs w p room l) (hs : Sorted l) (hl : l.length ≤ 1000) (H : Hid (synced n l = e)) :
    Calls Tryz.prog 39 #[.pointer (some ⟨p, 0, none⟩), .string (B n)] w fun x w' => x = .returned (.int .i64 (e : Int)) ∧ sQuiet w w' := by
  obtain ⟨k, HK⟩ : ∃ k, Hid (idx n l = k) := ⟨_, Lib.hid rfl⟩
  have HM := Lib.hid hm
  have HS := Lib.hid hs
  clear hm hs
  cases hf : find n l with
  | none =>
    have HE : Hid (e = 0) := Lib.hid (by
      have := H.out
      unfold synced at this
      rw [hf] at this
      exact this.symm)
    have HI : Hid (isAt n l = false) := Lib.hid (by unfold isAt; rw [hf]; rfl)
    clear hf
    go_enter Tryz.func39, Tryz.ntmps39
    go_wp2_with fail
    refine (mFind_l p room l n k false _ HM.out HS.out hl HK HI).mono ?_
    rintro x w1 ⟨rfl, q, rfl⟩
    go_wp2
    go_ret
    rw [HE.out]
    exact ⟨rfl, _, rfl⟩
  | some f =>
    have HE : Hid (e = f.syn) := Lib.hid (by
      have := H.out
      unfold synced at this
      rw [hf] at this
      exact this.symm)
    have HI : Hid (isAt n l = true) := Lib.hid (by unfold isAt; rw [hf]; rfl)
    obtain ⟨a, cap, hr⟩ := HM.out.rd
    obtain ⟨hlt, b, off, rfl, -, -, x2⟩ := found_at HS.out hr hf
    rw [HK.out] at hlt x2
    have HC0 := Lib.hid hr.c0
    have HX2 := Lib.hid x2
    clear hf hr x2
    have hk1 : (k : Int) < (l.length : Int) := by omega
    go_enter Tryz.func39, Tryz.ntmps39
    go_wp2_with fail
    refine (mFind_l p room l n k true _ HM.out HS.out hl HK HI).mono ?_
    rintro x w1 ⟨rfl, q, rfl⟩
    have c0 : (w.drewN q).cell? ⟨p, 0, none⟩ = some (.slice (some ⟨b, off, none⟩) l.length cap) := HC0.out
    have x2 : (w.drewN q).cell? ⟨b, off + k * 3 + 2, none⟩ = some (.int .i64 (f.syn : Int)) := HX2.out
    go_wp2
    go_ret
    rw [HE.out]
    exact ⟨rfl, _, rfl⟩
theorem Tryz.infoTx : (Tryz.prog.info? 9).map (fun i => (i.zero, i.size, i.bytes)) = some (some (.string ⟨#[]⟩), 1, 16) := by kernel_rfl
theorem names_next {l : List F} {j : Nat} (h : j < l.length) : strCells ((l.take (j + 1)).map F.name) = strCells ((l.take j).map F.name) ++ [.string (B l[j].name)] := by
  rw [List.take_succ_eq_append_getElem h, List.map_append, strCells, List.map_append]; rfl
set_option maxHeartbeats 2000000 in
set_option maxRecDepth 100000 in
theorem mList_l (p : Nat) (room : Int) (l : List F) (w : World) (hm : MAt bs w p room l) (hl : l.length ≤ 1000) :
    Calls Tryz.prog 33 #[.pointer (some ⟨p, 0, none⟩)] w fun x w' => ∃ v, x = .returned v ∧ w'.ownsRow w.heap.size 9 1 v l.length (strCells (l.map F.name)) ∧ Below w.heap.size w w' := by
  obtain ⟨i0, hi, hz0, hz1, hz2⟩ := info_parts Tryz.infoTx
  obtain ⟨a, cap, hr⟩ := hm.rd
  have HC0 := Lib.hid hr.c0
  have HR := Lib.hid hr.row
  clear hm hr
  go_enter Tryz.func33, Tryz.ntmps33
  go_wp2
  go_loopw [3, 4] (fun v i wr => ∃ j : Nat, i = .int .i64 j ∧ j ≤ l.length ∧ wr.ownsRow w.heap.size 9 1 v j (strCells ((l.take j).map F.name)) ∧ Below w.heap.size w wr) (fun _ i _ => l.length - (intOf i).toNat)
  case atStart => exact ⟨0, rfl, Nat.zero_le _, World.ownsRow_nil _ _ _ _, Below.refl _ _⟩
  case round =>
    obtain ⟨j, rfl, hj, hown, hbw⟩ := hrel
    have hsz := hbw.size
    have c0 : wr.cell? ⟨p, 0, none⟩ = some (.slice a l.length cap) := by rw [hbw.cell (World.block_lt_of_cell? w _ HC0.out)]; exact HC0.out
    by_cases hlt : j < l.length
    · have hj1 : (j : Int) < (l.length : Int) := by omega
      obtain ⟨b, off, rfl, g0, -, -⟩ := HR.out j hlt
      have x0 : wr.cell? ⟨b, off + j * 3, none⟩ = some (.string (B l[j].name)) := by rw [hbw.cell (World.block_lt_of_cell? w _ g0)]; exact g0
      have HN := Lib.hid (names_next hlt)
      clear g0
      generalize l[j].name = nm at x0 HN
      go_wp2_with (at_builtin; refine wpList_append_own _ rfl _ _ 67 rfl w.heap.size 9 i0 (.string ⟨#[]⟩) 1 16 Tryz.underlying67 hi hz0 hz1 hz2 rfl (by decide) _ _ _ rfl (hown.alloc _) ⟨wr.heap.size, 0, none⟩ 1 1 [.string (B nm)] rfl rfl (cell_one_new _ _ _) (by intro u hu; simp at hu; subst hu; rfl) (by unfold maxLen; omega) (by omega) (by simp; omega) ?_; intro v' w1 hown' hgrow _)
      have hbw3 := below_grown hbw hsz hown hgrow
      have hown3 : w1.ownsRow w.heap.size 9 1 v' (j + 1) (strCells ((l.take (j + 1)).map F.name)) := by rw [HN.out]; exact hown'
      clear hown' hgrow
      go_wp2
      go_roundw
      case rel => exact ⟨j + 1, by go_num, by omega, hown3, hbw3⟩
      case measure => simp [intOf]; omega
    · have hj1 : ¬ (j : Int) < (l.length : Int) := by omega
      obtain rfl : j = l.length := by omega
      have e : l.take l.length = l := List.take_of_length_le (Nat.le_refl _)
      rw [e] at hown
      have HO := Lib.hid hown
      clear hown e hj hlt
      go_wp2
      go_ret
      exact ⟨_, rfl, HO.out, hbw⟩
end Go.Proofs.YtmfhipjceeijmaaGreatDoor.D

/-
  Walks of the document's disk (package bucketlineref8): what writes it: New, Sync.
-/
namespace Go.Proofs.YtmfhipjceeijmaaGreatDoor.D
open Go.RowKit
attribute [local go_sem] ext_Bd ext_Bl ext_Bt toList_B add_B size_B get_Bt
variable {bs : Nat}

theorem set_blk {w : World} {g : Nat} {cs : Array Value} {t : TypeId} (h : w.heap[g]? = some (.cells cs t (0, 0))) (j : Nat) (u : Value) : (w.setCell ⟨g, j, none⟩ u).heap[g]? = some (.cells (cs.setIfInBounds j u) t (0, 0)) := by
  obtain ⟨hlt, hk⟩ := Array.getElem?_eq_some_iff.1 h
  show (w.heap.modify g _)[g]? = _
  rw [Array.getElem?_eq_getElem (by rw [Array.size_modify]; exact hlt), Array.getElem_modify_self, hk]
  rfl
theorem set_oth {w : World} {p : Addr} {u : Value} {k : Nat} (h : k ≠ p.block) : (w.setCell p u).heap[k]? = w.heap[k]? := Below.heap_setCell w p u k h
/-- All that was there stays, but the disk's own block and rows of files. -/
structure Kp (bs p : Nat) (w w' : World) : Prop where
  os : w'.os = w.os
  tape : w'.tape = w.tape
  output : w'.output = w.output
  size : w.heap.size ≤ w'.heap.size
  block : ∀ (k : Nat) (o : Obj), w.heap[k]? = some o → k < bs ∨ (k ≠ p ∧ ∀ c fr, o ≠ .cells c 114 fr) → w'.heap[k]? = some o
theorem Kp.refl (p : Nat) (w : World) : Kp bs p w w := ⟨rfl, rfl, rfl, Nat.le_refl _, fun _ _ h _ => h⟩
theorem Kp.trans {p : Nat} {a b c : World} (h : Kp bs p a b) (k : Kp bs p b c) : Kp bs p a c :=
  ⟨k.os.trans h.os, k.tape.trans h.tape, k.output.trans h.output, Nat.le_trans h.size k.size, fun i o hi hp => k.block i o (h.block i o hi hp) hp⟩
theorem Kp.of_below {p : Nat} {w w' : World} (h : Below w.heap.size w w') : Kp bs p w w' := ⟨h.os, h.tape, h.output, h.size, fun k o hk _ => by rw [h.block k (blk_lt hk)]; exact hk⟩
theorem Kp.quiet {p : Nat} {w w' : World} (h : sQuiet w w') : Kp bs p w w' := by obtain ⟨n, rfl⟩ := h; exact ⟨rfl, rfl, rfl, Nat.le_refl _, fun _ _ h _ => h⟩
theorem Kp.drewN {p : Nat} {w w' : World} (h : Kp bs p w w') (n : Nat) : Kp bs p w (w'.drewN n) := ⟨h.os, h.tape, h.output, h.size, h.block⟩
theorem Kp.set_own {p : Nat} {w w' : World} (h : Kp bs p w w') (hlo : bs ≤ p) (j : Nat) (u : Value) : Kp bs p w (w'.setCell ⟨p, j, none⟩ u) :=
  ⟨h.os, h.tape, h.output, by simpa using h.size, fun k o hk hp => by
    have hkp : k ≠ p := hp.elim (fun h => by omega) (fun h => h.1)
    rw [set_oth hkp]; exact h.block k o hk hp⟩
theorem Kp.set_row {p g : Nat} {w w' : World} {cs : Array Value} (h : Kp bs p w w') (hg : w'.heap[g]? = some (.cells cs 114 (0, 0))) (hlo : bs ≤ g) (j : Nat) (u : Value) : Kp bs p w (w'.setCell ⟨g, j, none⟩ u) :=
  ⟨h.os, h.tape, h.output, by simpa using h.size, fun k o hk hp => by
    have h1 := h.block k o hk hp
    have hkg : k ≠ g := fun e => by
      subst e
      rcases hp with hp | hp
      · omega
      · rw [hg] at h1
        cases h1
        exact hp.2 _ _ rfl
    rw [set_oth hkg]; exact h1⟩
/-- A cell of a row is written. -/
theorem row_set {w : World} {base e s g n cap : Nat} {xs : List Value} (h : w.ownsRow base e s (.slice (some ⟨g, 0, none⟩) n cap) n xs) {i : Nat} (u : Value) : (w.setCell ⟨g, i, none⟩ u).ownsRow base e s (.slice (some ⟨g, 0, none⟩) n cap) n (xs.set i u) := by
  obtain ⟨h1, h2⟩ := h
  refine ⟨by rw [List.length_set]; exact h1, ?_⟩
  rcases h2 with ⟨h2, _⟩ | ⟨g2, cap2, cur, hv, hb, hg, hn, hc, hs, ht⟩
  · cases h2
  · cases hv
    refine .inr ⟨g, cap, cur.setIfInBounds i u, rfl, hb, set_blk hg i u, hn, hc, by simpa using hs, ?_⟩
    rw [← ht]
    apply List.ext_getElem?
    intro q
    by_cases hq : q < n * s
    · rw [List.getElem?_take_of_lt hq, List.getElem?_set]
      by_cases e2 : i = q
      · subst e2
        simp only [if_true]
        by_cases hz : i < cur.size
        · simp [hz]
          omega
        · simp [hz]
          omega
      · rw [if_neg e2, List.getElem?_take_of_lt hq]
        simp [e2]
    · rw [List.getElem?_eq_none (by simp; omega), List.getElem?_eq_none (by simp; omega)]
theorem fileCells_syn : ∀ {l : List F} {i : Nat} (h : i < l.length) (z : Nat), (fileCells l).set (i * 3 + 2) (.int .i64 (z : Int)) = fileCells (l.set i ⟨l[i].name, l[i].data, z⟩)
  | f :: l, 0, _, z => rfl
  | f :: l, i + 1, h, z => by
    have := fileCells_syn (l := l) (i := i) (by simpa using h) z
    have e : (i + 1) * 3 + 2 = (i * 3 + 2) + 1 + 1 + 1 := by omega
    rw [e]
    simp only [fileCells, List.set_cons_succ, List.getElem_cons_succ]
    rw [this]
theorem fileCells_data : ∀ {l : List F} {i : Nat} (h : i < l.length) (t : Tx), (fileCells l).set (i * 3 + 1) (.string (B t)) = fileCells (l.set i ⟨l[i].name, t, l[i].syn⟩)
  | f :: l, 0, _, t => rfl
  | f :: l, i + 1, h, t => by
    have := fileCells_data (l := l) (i := i) (by simpa using h) t
    have e : (i + 1) * 3 + 1 = (i * 3 + 1) + 1 + 1 + 1 := by omega
    rw [e]
    simp only [fileCells, List.set_cons_succ, List.getElem_cons_succ]
    rw [this]
/-- What a walk that writes knows of the disk. -/
structure MWr (bs : Nat) (w : World) (p : Nat) (room : Int) (l : List F) (g cap : Nat) : Prop where
  own : w.heap[p]? = some (.cells #[.slice (some ⟨g, 0, none⟩) l.length cap, .int .i64 room] 104 (0, 0))
  lo : bs ≤ p
  row : w.ownsRow bs 114 3 (.slice (some ⟨g, 0, none⟩) l.length cap) l.length (fileCells l)
theorem MAt.wr {w : World} {p : Nat} {room : Int} {l : List F} (h : MAt bs w p room l) (hl : 0 < l.length) : ∃ g cap, MWr bs w p room l g cap := by
  obtain ⟨hlo, v, hp, hr⟩ := h
  have h2 := hr.2
  rcases h2 with ⟨_, h0⟩ | ⟨g, cap, cur, rfl, _⟩
  · omega
  · exact ⟨g, cap, hp, hlo, hr⟩
theorem MWr.at {w : World} {p : Nat} {room : Int} {l : List F} {g cap : Nat} (h : MWr bs w p room l g cap) : MAt bs w p room l := ⟨h.lo, _, h.own, h.row⟩
theorem MWr.quiet {w w' : World} {p : Nat} {room : Int} {l : List F} {g cap : Nat} (h : MWr bs w p room l g cap) (hq : sQuiet w w') : MWr bs w' p room l g cap := by
  obtain ⟨n, rfl⟩ := hq
  exact ⟨h.own, h.lo, h.row⟩
theorem MWr.blk {w : World} {p : Nat} {room : Int} {l : List F} {g cap : Nat} (h : MWr bs w p room l g cap) : ∃ cur, w.heap[g]? = some (.cells cur 114 (0, 0)) ∧ cur.size = cap * 3 ∧ l.length ≤ cap ∧ g ≠ p ∧ bs ≤ g := by
  rcases h.row.2 with ⟨h2, _⟩ | ⟨g2, cap2, cur, hv, hb, hg, hn, hc, hs, ht⟩
  · cases h2
  · cases hv
    refine ⟨cur, hg, hs, hn, fun e => ?_, hb⟩
    subst e
    have := h.own
    rw [hg] at this
    simp at this
theorem MWr.cells {w : World} {p : Nat} {room : Int} {l : List F} {g cap : Nat} (h : MWr bs w p room l g cap) : w.cell? ⟨p, 0, none⟩ = some (.slice (some ⟨g, 0, none⟩) l.length cap) ∧ w.cell? ⟨p, 1, none⟩ = some (.int .i64 room) := by
  constructor <;> simp [World.cell?, h.own]
theorem MWr.cell {w : World} {p : Nat} {room : Int} {l : List F} {g cap : Nat} (h : MWr bs w p room l g cap) {j : Nat} (hj : j < l.length * 3) : w.cell? ⟨g, j, none⟩ = (fileCells l)[j]? := by
  rcases h.row.2 with ⟨h2, _⟩ | ⟨g2, cap2, cur, hv, hb, hg, hn, hc, hs, ht⟩
  · cases h2
  · cases hv
    rw [← ht, List.getElem?_take_of_lt hj]
    simp [World.cell?, hg]
theorem MWr.loose {w : World} {p : Nat} {room : Int} {l : List F} {g cap : Nat} (h : MWr bs w p room l g cap) (j : Nat) : w.frozen? ⟨g, j, none⟩ = false := by
  obtain ⟨cur, hg, _⟩ := h.blk
  simp [World.frozen?, hg]
theorem MWr.setRow {w : World} {p : Nat} {room : Int} {l k : List F} {g cap i : Nat} {u : Value} (h : MWr bs w p room l g cap) (hk : k.length = l.length) (e : (fileCells l).set i u = fileCells k) : MWr bs (w.setCell ⟨g, i, none⟩ u) p room k g cap := by
  obtain ⟨cur, hg, _, _, hne, _⟩ := h.blk
  refine ⟨?_, h.lo, ?_⟩
  · rw [set_oth (fun e => hne e.symm), hk]; exact h.own
  · have := row_set h.row (i := i) u
    rw [e, ← hk] at this
    exact this

set_option maxHeartbeats 2000000 in
set_option maxRecDepth 100000 in
theorem mSync_l (p : Nat) (room : Int) (l : List F) (n : Tx) (e : Nat) (l2 : List F) (w : World) (hm : MAt bs w p room l) (hs : Sorted l) (hl : l.length ≤ 1000) (hd : ∀ f ∈ l, f.data.length ≤ 4000000000) (H : Hid (sync n l = (e, l2))) :
    Calls Tryz.prog 59 #[.pointer (some ⟨p, 0, none⟩), .string (B n)] w fun x w' => x = .returned (.int .i64 (e : Int)) ∧ MAt bs w' p room l2 ∧ Kp bs p w w' := by
  obtain ⟨k, HK⟩ : ∃ k, Hid (idx n l = k) := ⟨_, Lib.hid rfl⟩
  have HM := Lib.hid hm
  have HS := Lib.hid hs
  cases hf : find n l with
  | none =>
    have HE : Hid (e = 6 ∧ l2 = l) := Lib.hid (by
      have := H.out
      unfold sync at this
      rw [hf] at this
      exact ⟨(congrArg Prod.fst this).symm, (congrArg Prod.snd this).symm⟩)
    have HI : Hid (isAt n l = false) := Lib.hid (by unfold isAt; rw [hf]; rfl)
    clear hf hm hs hd
    go_enter Tryz.func59, Tryz.ntmps59
    go_wp2_with fail
    refine (mFind_l p room l n k false _ HM.out HS.out hl HK HI).mono ?_
    rintro x w1 ⟨rfl, q, rfl⟩
    go_wp2
    go_ret
    rw [HE.out.1, HE.out.2]
    exact ⟨rfl, HM.out, (Kp.refl p w).drewN _⟩
  | some f =>
    obtain ⟨hlt, hfe⟩ : ∃ h : k < l.length, l[k] = f := by
      have := idx_of hs hf
      simp only [HK.out] at this
      exact this
    obtain ⟨hmem, hnm⟩ := find_some hf
    have hdl := hd f hmem
    have HE : Hid (e = 0 ∧ l2 = l.set k ⟨f.name, f.data, f.data.length⟩) := Lib.hid (by
      have := H.out
      unfold sync at this
      rw [hf] at this
      refine ⟨(congrArg Prod.fst this).symm, (congrArg Prod.snd this).symm.trans ?_⟩
      dsimp only
      rw [hnm, put_old (f := ⟨n, f.data, f.data.length⟩) hs (by rw [hf]; intro h; cases h), HK.out])
    have HI : Hid (isAt n l = true) := Lib.hid (by unfold isAt; rw [hf]; rfl)
    obtain ⟨g, cap, hw⟩ := hm.wr (by omega)
    have HC := Lib.hid (fileCells_at hlt)
    rw [hfe] at HC
    have HSY := Lib.hid (fileCells_syn hlt f.data.length)
    rw [hfe] at HSY
    have HW := Lib.hid hw
    clear hf hm hs hd hw hmem hnm hfe
    have hk1 : (k : Int) < (l.length : Int) := by omega
    go_enter Tryz.func59, Tryz.ntmps59
    go_wp2_with fail
    refine (mFind_l p room l n k true _ HM.out HS.out hl HK HI).mono ?_
    rintro x w1 ⟨rfl, hq⟩
    have HW1 := Lib.hid (HW.out.quiet hq)
    have HKP := Lib.hid (Kp.quiet (bs := bs) (p := p) hq)
    clear hq HW HM
    have c0 := HW1.out.cells.1
    have x1 : w1.cell? ⟨g, k * 3 + 1, none⟩ = some (.string (B f.data)) := (HW1.out.cell (by omega)).trans HC.out.2.1
    have x2 : w1.cell? ⟨g, k * 3 + 2, none⟩ = some (.int .i64 (f.syn : Int)) := (HW1.out.cell (by omega)).trans HC.out.2.2
    have f2 := HW1.out.loose (k * 3 + 2)
    go_wp2
    go_region
    all_goals (try go_wp2)
    go_ret
    rw [HE.out.1, HE.out.2]
    obtain ⟨cur, hg, -, -, -, hlo⟩ := HW1.out.blk
    exact ⟨rfl, (MWr.setRow (HW1.out.quiet ⟨_, rfl⟩) (List.length_set ..) HSY.out).at, ((HKP.out.drewN _).set_row hg hlo _ _)⟩
end Go.Proofs.YtmfhipjceeijmaaGreatDoor.D
