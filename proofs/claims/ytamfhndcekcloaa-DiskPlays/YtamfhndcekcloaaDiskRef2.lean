/-
  Walks of the document's disk (package bucketlineref8): Used, Read, Synced, List.
-/
import Derived.Test.YtamfhndcekcloaaDiskRef
namespace Go.Proofs.Ytamfhndcekcloaa.D
open Go.RowKit
attribute [local go_sem] ext_Bd ext_Bl ext_Bt toList_B add_B size_B get_Bt
variable {bs : Nat}

theorem MAt.quiet {w w' : World} {p : Nat} {room : Int} {l : List F} (h : MAt bs w p room l) (hq : sQuiet w w') : MAt bs w' p room l := by
  obtain ⟨n, rfl⟩ := hq
  exact h
theorem blk_lt {w : World} {k : Nat} {o : Obj} (h : w.heap[k]? = some o) : k < w.heap.size := (Array.getElem?_eq_some_iff.1 h).1
theorem row_keep {w w' : World} {base : Nat} {e : TypeId} {s n : Nat} {v : Value} {xs : List Value} (h : w.ownsRow base e s v n xs) (hk : ∀ (k : Nat) (c : Array Value), w.heap[k]? = some (Obj.cells c e (0, 0)) → w'.heap[k]? = some (Obj.cells c e (0, 0))) : w'.ownsRow base e s v n xs := by
  obtain ⟨h1, h2⟩ := h
  refine ⟨h1, ?_⟩
  rcases h2 with h2 | ⟨g, cap, cur, hv, hb, hg, hr⟩
  · exact .inl h2
  · exact .inr ⟨g, cap, cur, hv, hb, hk g cur hg, hr⟩
theorem MAt.below {w w' : World} {p : Nat} {room : Int} {l : List F} (h : MAt bs w p room l) (hb : Below w.heap.size w w') : MAt bs w' p room l := by
  obtain ⟨hlo, v, hp, hr⟩ := h
  exact ⟨hlo, v, by rw [hb.block p (blk_lt hp)]; exact hp, row_keep hr fun k c hk => by rw [hb.block k (blk_lt hk)]; exact hk⟩
theorem used_next : ∀ {l : List F} {j : Nat} (h : j < l.length), used (l.take (j + 1)) = used (l.take j) + l[j].data.length
  | f :: l, 0, _ => by simp [used]
  | f :: l, j + 1, h => by
    have := used_next (l := l) (j := j) (by simpa using h)
    simp only [List.take_succ_cons, used, List.getElem_cons_succ]
    omega
theorem used_take : ∀ (l : List F) (j : Nat), used (l.take j) ≤ used l
  | [], j => by simp
  | f :: l, 0 => by simp [used]
  | f :: l, j + 1 => by
    have := used_take l j
    simp only [List.take_succ_cons, used]
    omega

set_option maxHeartbeats 2000000 in
set_option maxRecDepth 100000 in
theorem mUsed_l (p : Nat) (room : Int) (l : List F) (n : Nat) (w : World) (hm : MAt bs w p room l) (hl : l.length ≤ 1000) (hu : used l ≤ 4000000000) (HU : Hid (used l = n)) :
    Calls Try.prog 36 #[.pointer (some ⟨p, 0, none⟩)] w fun x w' => x = .returned (.int .i64 (n : Int)) ∧ sQuiet w w' := by
  obtain ⟨a, cap, hr⟩ := hm.rd
  have c0 := hr.c0
  have HR := Lib.hid hr.row
  clear hm hr
  go_enter Try.func36, Try.ntmps36
  go_wp2
  go_loop [3, 4] (fun z i => ∃ j m : Nat, i = .int .i64 j ∧ z = .int .i64 m ∧ j ≤ l.length ∧ m ≤ 4000000000 ∧ Hid (m = used (l.take j))) (fun _ i => l.length - (intOf i).toNat)
  case atStart => exact ⟨0, 0, rfl, rfl, Nat.zero_le _, Nat.zero_le _, Lib.hid (by simp [used])⟩
  case round =>
    obtain ⟨j, m, rfl, rfl, hj, hmb, HM⟩ := hrel
    by_cases hlt : j < l.length
    · have hj1 : (j : Int) < (l.length : Int) := by omega
      obtain ⟨b, off, rfl, -, x1, -⟩ := HR.out j hlt
      have hn := used_next hlt
      have ht := used_take l (j + 1)
      rw [hn, ← HM.out] at ht
      have HN : Hid (m + l[j].data.length = used (l.take (j + 1))) := Lib.hid (by rw [hn, ← HM.out])
      clear hn HM
      have hb : l[j].data.length ≤ 4000000000 := by omega
      have hmb2 : m + l[j].data.length ≤ 4000000000 := by omega
      clear ht
      generalize l[j].data = dt at x1 HN hb hmb2
      go_wp2
      go_round
      case rel => exact ⟨j + 1, m + dt.length, by go_num, by go_num, by omega, hmb2, HN⟩
      case measure => simp [intOf]; omega
    · have hj1 : ¬ (j : Int) < (l.length : Int) := by omega
      have HE := Lib.hid (show m = n by rw [HM.out, List.take_of_length_le (by omega), HU.out])
      clear HM
      go_wp2
      go_ret
      rw [HE.out]
      exact ⟨rfl, 0, rfl⟩

/-- What is found, and where. -/
theorem found_at {p : Nat} {room : Int} {l : List F} {n : Tx} {f : F} {w : World} {a : Option Addr} {cap : Nat} (hs : Sorted l) (hr : MRd w p room l a cap) (hf : find n l = some f) : idx n l < l.length ∧ ∃ b off, a = some ⟨b, off, none⟩ ∧ w.cell? ⟨b, off + idx n l * 3, none⟩ = some (.string (B f.name)) ∧ w.cell? ⟨b, off + idx n l * 3 + 1, none⟩ = some (.string (B f.data)) ∧ w.cell? ⟨b, off + idx n l * 3 + 2, none⟩ = some (.int .i64 (f.syn : Int)) := by
  obtain ⟨h, e⟩ := idx_of hs hf
  obtain ⟨b, off, e1, x0, x1, x2⟩ := hr.row _ h
  rw [e] at x0 x1 x2
  exact ⟨h, b, off, e1, x0, x1, x2⟩

set_option maxHeartbeats 2000000 in
set_option maxRecDepth 100000 in
theorem mRead_l (p : Nat) (room : Int) (l : List F) (n : Tx) (s : Tx) (e : Nat) (w : World) (hm : MAt bs w p room l) (hs : Sorted l) (hl : l.length ≤ 1000) (H : Hid (read n l = (s, e))) :
    Calls Try.prog 17 #[.pointer (some ⟨p, 0, none⟩), .string (B n)] w fun x w' => x = .returned (.tuple #[.string (B s), .int .i64 (e : Int)]) ∧ sQuiet w w' := by
  obtain ⟨k, HK⟩ : ∃ k, Hid (idx n l = k) := ⟨_, Lib.hid rfl⟩
  have HM := Lib.hid hm
  have HS := Lib.hid hs
  clear hm hs
  cases hf : find n l with
  | none =>
    have HE : Hid (s = [] ∧ e = 6) := Lib.hid (by
      have := H.out
      unfold read at this
      rw [hf] at this
      exact ⟨(congrArg Prod.fst this).symm, (congrArg Prod.snd this).symm⟩)
    have HI : Hid (isAt n l = false) := Lib.hid (by unfold isAt; rw [hf]; rfl)
    clear hf
    go_enter Try.func17, Try.ntmps17
    go_wp2_with fail
    refine (mFind_l p room l n k false _ HM.out HS.out hl HK HI).mono ?_
    rintro x w1 ⟨rfl, q, rfl⟩
    go_wp2
    go_ret2
    rw [HE.out.1, HE.out.2]
    exact ⟨rfl, _, rfl⟩
  | some f =>
    have HE : Hid (s = f.data ∧ e = 0) := Lib.hid (by
      have := H.out
      unfold read at this
      rw [hf] at this
      exact ⟨(congrArg Prod.fst this).symm, (congrArg Prod.snd this).symm⟩)
    have HI : Hid (isAt n l = true) := Lib.hid (by unfold isAt; rw [hf]; rfl)
    obtain ⟨a, cap, hr⟩ := HM.out.rd
    obtain ⟨hlt, b, off, rfl, -, x1, -⟩ := found_at HS.out hr hf
    rw [HK.out] at hlt x1
    have HC0 := Lib.hid hr.c0
    have HX1 := Lib.hid x1
    clear hf hr x1
    have hk1 : (k : Int) < (l.length : Int) := by omega
    go_enter Try.func17, Try.ntmps17
    go_wp2_with fail
    refine (mFind_l p room l n k true _ HM.out HS.out hl HK HI).mono ?_
    rintro x w1 ⟨rfl, q, rfl⟩
    have c0 : (w.drewN q).cell? ⟨p, 0, none⟩ = some (.slice (some ⟨b, off, none⟩) l.length cap) := HC0.out
    have x1 : (w.drewN q).cell? ⟨b, off + k * 3 + 1, none⟩ = some (.string (B f.data)) := HX1.out
    go_wp2
    go_ret2
    rw [HE.out.1, HE.out.2]
    exact ⟨rfl, _, rfl⟩
set_option maxHeartbeats 2000000 in
set_option maxRecDepth 100000 in
theorem mSynced_l (p : Nat) (room : Int) (l : List F) (n : Tx) (e : Nat) (w : World) (hm : MAt bs w p room l) (hs : Sorted l) (hl : l.length ≤ 1000) (H : Hid (synced n l = e)) :
    Calls Try.prog 37 #[.pointer (some ⟨p, 0, none⟩), .string (B n)] w fun x w' => x = .returned (.int .i64 (e : Int)) ∧ sQuiet w w' := by
  obtain ⟨k, HK⟩ : ∃ k, Hid (idx n l = k) := ⟨_, Lib.hid rfl⟩
  have HM := Lib.hid hm
  have HS := Lib.hid hs
  clear hm hs
  cases hf : find n l with
  | none =>
    have HE : Hid (e = 0) := Lib.hid (by
      have := H.out
      unfold synced at this
      rw [hf] at this
      exact this.symm)
    have HI : Hid (isAt n l = false) := Lib.hid (by unfold isAt; rw [hf]; rfl)
    clear hf
    go_enter Try.func37, Try.ntmps37
    go_wp2_with fail
    refine (mFind_l p room l n k false _ HM.out HS.out hl HK HI).mono ?_
    rintro x w1 ⟨rfl, q, rfl⟩
    go_wp2
    go_ret
    rw [HE.out]
    exact ⟨rfl, _, rfl⟩
  | some f =>
    have HE : Hid (e = f.syn) := Lib.hid (by
      have := H.out
      unfold synced at this
      rw [hf] at this
      exact this.symm)
    have HI : Hid (isAt n l = true) := Lib.hid (by unfold isAt; rw [hf]; rfl)
    obtain ⟨a, cap, hr⟩ := HM.out.rd
    obtain ⟨hlt, b, off, rfl, -, -, x2⟩ := found_at HS.out hr hf
    rw [HK.out] at hlt x2
    have HC0 := Lib.hid hr.c0
    have HX2 := Lib.hid x2
    clear hf hr x2
    have hk1 : (k : Int) < (l.length : Int) := by omega
    go_enter Try.func37, Try.ntmps37
    go_wp2_with fail
    refine (mFind_l p room l n k true _ HM.out HS.out hl HK HI).mono ?_
    rintro x w1 ⟨rfl, q, rfl⟩
    have c0 : (w.drewN q).cell? ⟨p, 0, none⟩ = some (.slice (some ⟨b, off, none⟩) l.length cap) := HC0.out
    have x2 : (w.drewN q).cell? ⟨b, off + k * 3 + 2, none⟩ = some (.int .i64 (f.syn : Int)) := HX2.out
    go_wp2
    go_ret
    rw [HE.out]
    exact ⟨rfl, _, rfl⟩
theorem Try.infoTx : (Try.prog.info? 9).map (fun i => (i.zero, i.size, i.bytes)) = some (some (.string ⟨#[]⟩), 1, 16) := by kernel_rfl
theorem names_next {l : List F} {j : Nat} (h : j < l.length) : strCells ((l.take (j + 1)).map F.name) = strCells ((l.take j).map F.name) ++ [.string (B l[j].name)] := by
  rw [List.take_succ_eq_append_getElem h, List.map_append, strCells, List.map_append]; rfl
set_option maxHeartbeats 2000000 in
set_option maxRecDepth 100000 in
theorem mList_l (p : Nat) (room : Int) (l : List F) (w : World) (hm : MAt bs w p room l) (hl : l.length ≤ 1000) :
    Calls Try.prog 35 #[.pointer (some ⟨p, 0, none⟩)] w fun x w' => ∃ v, x = .returned v ∧ w'.ownsRow w.heap.size 9 1 v l.length (strCells (l.map F.name)) ∧ Below w.heap.size w w' := by
  obtain ⟨i0, hi, hz0, hz1, hz2⟩ := info_parts Try.infoTx
  obtain ⟨a, cap, hr⟩ := hm.rd
  have HC0 := Lib.hid hr.c0
  have HR := Lib.hid hr.row
  clear hm hr
  go_enter Try.func35, Try.ntmps35
  go_wp2
  go_loopw [3, 4] (fun v i wr => ∃ j : Nat, i = .int .i64 j ∧ j ≤ l.length ∧ wr.ownsRow w.heap.size 9 1 v j (strCells ((l.take j).map F.name)) ∧ Below w.heap.size w wr) (fun _ i _ => l.length - (intOf i).toNat)
  case atStart => exact ⟨0, rfl, Nat.zero_le _, World.ownsRow_nil _ _ _ _, Below.refl _ _⟩
  case round =>
    obtain ⟨j, rfl, hj, hown, hbw⟩ := hrel
    have hsz := hbw.size
    have c0 : wr.cell? ⟨p, 0, none⟩ = some (.slice a l.length cap) := by rw [hbw.cell (World.block_lt_of_cell? w _ HC0.out)]; exact HC0.out
    by_cases hlt : j < l.length
    · have hj1 : (j : Int) < (l.length : Int) := by omega
      obtain ⟨b, off, rfl, g0, -, -⟩ := HR.out j hlt
      have x0 : wr.cell? ⟨b, off + j * 3, none⟩ = some (.string (B l[j].name)) := by rw [hbw.cell (World.block_lt_of_cell? w _ g0)]; exact g0
      have HN := Lib.hid (names_next hlt)
      clear g0
      generalize l[j].name = nm at x0 HN
      go_wp2_with (at_builtin; refine wpList_append_own _ rfl _ _ 45 rfl w.heap.size 9 i0 (.string ⟨#[]⟩) 1 16 Try.underlying45 hi hz0 hz1 hz2 rfl (by decide) _ _ _ rfl (hown.alloc _) ⟨wr.heap.size, 0, none⟩ 1 1 [.string (B nm)] rfl rfl (cell_one_new _ _ _) (by intro u hu; simp at hu; subst hu; rfl) (by unfold maxLen; omega) (by omega) (by simp; omega) ?_; intro v' w1 hown' hgrow _)
      have hbw3 := below_grown hbw hsz hown hgrow
      have hown3 : w1.ownsRow w.heap.size 9 1 v' (j + 1) (strCells ((l.take (j + 1)).map F.name)) := by rw [HN.out]; exact hown'
      clear hown' hgrow
      go_wp2
      go_roundw
      case rel => exact ⟨j + 1, by go_num, by omega, hown3, hbw3⟩
      case measure => simp [intOf]; omega
    · have hj1 : ¬ (j : Int) < (l.length : Int) := by omega
      obtain rfl : j = l.length := by omega
      have e : l.take l.length = l := List.take_of_length_le (Nat.le_refl _)
      rw [e] at hown
      have HO := Lib.hid hown
      clear hown e hj hlt
      go_wp2
      go_ret
      exact ⟨_, rfl, HO.out, hbw⟩
end Go.Proofs.Ytamfhndcekcloaa.D
