/-
  What follows of the manifest and of the mark of epochs, over the disk's lists. No program in this text.
-/
import Derived.Test.YtmfhipjceeijmaaManSpec
namespace Go.Proofs.Ytmfhipjceeijmaa.A
open D (Tx)

theorem crash_find {n : Tx} {f : D.F} : ∀ {ks : List Int} {l : List D.F}, D.find n l = some f → f.syn = f.data.length → D.find n (D.crash ks l) = some f
  | _, [], h, _ => by cases h
  | ks, g :: l, h, hf => by
    rw [D.find] at h
    rw [D.crash, D.find]
    by_cases he : g.name = n
    · rw [if_pos he] at h
      cases h
      rw [if_pos (by exact he), D.crashF_full hf]
    · rw [if_neg he] at h
      rw [if_neg (by exact he)]
      exact crash_find h hf
theorem crash_none {n : Tx} : ∀ {ks : List Int} {l : List D.F}, D.find n l = none → D.find n (D.crash ks l) = none
  | _, [], _ => rfl
  | ks, g :: l, h => by
    rw [D.find] at h
    rw [D.crash, D.find]
    by_cases he : g.name = n
    · rw [if_pos he] at h; cases h
    · rw [if_neg he] at h
      rw [if_neg (by exact he)]
      exact crash_none h
theorem append_find {room : Nat} {nm s n : Tx} {l : List D.F} (h : nm ≠ n) : D.find n (D.append room nm s l).2 = D.find n l := by
  by_cases h0 : (D.append room nm s l).1 = 0
  · rw [append_zero h0]
    cases hf : D.find nm l with
    | none => exact D.find_put_ne (f := ⟨nm, s, 0⟩) h l
    | some f => exact D.find_put_ne (f := ⟨nm, f.data ++ s, f.syn⟩) h l
  · rw [append_err h0]

/-- What a disk keeps of manifests: the last one that was saved, all of it synced. -/
structure Kp (room : Nat) (l : List D.F) (next : Int) (segs : List Int) : Prop where
  inv : D.Inv room l
  file : (D.find fileN l = none ∧ next = 1 ∧ segs = []) ∨ (right next segs = true ∧ D.find fileN l = some (full fileN (F.frame (payload next segs))))
theorem Kp.start (room : Nat) : Kp room [] 1 [] := ⟨D.inv_nil room, .inl ⟨rfl, rfl, rfl⟩⟩
theorem Kp.load {room : Nat} {l : List D.F} {next : Int} {segs : List Int} (h : Kp room l next segs) : ∃ n s, loadD l = (0, n, s) ∧ (n : Int) = next ∧ castL s = segs := by
  rcases h.file with ⟨h1, rfl, rfl⟩ | ⟨h1, h2⟩
  · refine ⟨1, [], ?_, rfl, rfl⟩
    unfold loadD
    rw [h1]
  · refine ⟨next.toNat, segs.map Int.toNat, ?_, ?_, ?_⟩
    · unfold loadD
      rw [h2]
      dsimp only
      rw [show (full fileN (F.frame (payload next segs))).data = F.frame (payload next segs) from rfl, load_frame h1]
    · have := (right_iff.1 h1).1
      omega
    · exact cast_nat fun n hn => by have := right_segs h1 n hn; omega
theorem Kp.save {room : Nat} {l : List D.F} {next n : Int} {segs s : List Int} {e : Nat} {l2 : List D.F} (h : Kp room l next segs) (H : saveD room n s l = (e, l2)) : (e = 0 ∧ Kp room l2 n s) ∨ (e ≠ 0 ∧ Kp room l2 next segs) := by
  have hi := save_inv (next := n) (segs := s) h.inv
  rw [H] at hi
  unfold saveD at H
  by_cases hr : right n s = true
  · rw [if_pos hr] at H
    rcases replace_is (room := room) (nm := fileN) (p := payload n s) l (by decide +kernel) with ⟨h1, h2⟩ | ⟨h1, h2⟩
    · rw [H] at h1 h2
      refine .inl ⟨h1, hi, .inr ⟨hr, ?_⟩⟩
      dsimp only at h2
      rw [h2]
      exact D.find_put (f := full fileN (F.frame (payload n s))) (D.del temp l)
    · rw [H] at h1 h2
      refine .inr ⟨h1, hi, ?_⟩
      dsimp only at h2
      rw [h2, D.find_del_ne (show temp ≠ fileN by decide)]
      exact h.file
  · rw [if_neg hr] at H
    cases H
    exact .inr ⟨by decide, h⟩
theorem Kp.append {room : Nat} {l : List D.F} {next : Int} {segs : List Int} (h : Kp room l next segs) (s : Tx) : Kp room (D.append room temp s l).2 next segs :=
  ⟨h.inv.append, by rw [append_find (show temp ≠ fileN by decide)]; exact h.file⟩
theorem Kp.crash {room : Nat} {l : List D.F} {next : Int} {segs : List Int} (h : Kp room l next segs) (ks : List Int) : Kp room (D.crash ks l) next segs :=
  ⟨h.inv.crash, h.file.imp (fun ⟨a, b⟩ => ⟨crash_none a, b⟩) fun ⟨a, b⟩ => ⟨a, crash_find b rfl⟩⟩

/-- What a disk with epochs alone keeps. -/
structure Ep (l : List D.F) (now : Nat) : Prop where
  st : (l = [] ∧ now = 0) ∨ ∃ s k, l = [full markN s] ∧ marksOf s = (now, k, true) ∧ k ≤ 21 ∧ s.length ≤ 14 * k
theorem Ep.start : Ep [] 0 := ⟨.inl ⟨rfl, rfl⟩⟩
theorem one_inv {room y : Nat} {nm s : Tx} (h : s.length ≤ room) (hy : y ≤ s.length) : D.Inv room [⟨nm, s, y⟩] :=
  ⟨List.pairwise_singleton _ _, fun f hf => by rw [List.mem_singleton] at hf; subst hf; exact hy, by simp, by simpa [D.used] using h⟩
theorem Ep.inv {room : Nat} {l : List D.F} {now : Nat} (h : Ep l now) (hr : 400 ≤ room) : D.Inv room l := by
  rcases h.st with ⟨rfl, -⟩ | ⟨s, k, rfl, -, h1, h2⟩
  · exact D.inv_nil _
  · exact one_inv (by omega) (Nat.le_refl _)
theorem Ep.used {l : List D.F} {now : Nat} (h : Ep l now) : D.used l ≤ 294 := by
  rcases h.st with ⟨rfl, -⟩ | ⟨s, k, rfl, -, h1, h2⟩
  · simp [D.used]
  · simp [D.used, full]; omega
theorem find_one (nm s : Tx) (y : Nat) : D.find nm [⟨nm, s, y⟩] = some ⟨nm, s, y⟩ := by rw [D.find, if_pos rfl]
theorem read_one (nm s : Tx) (y : Nat) : D.read nm [⟨nm, s, y⟩] = (s, 0) := by unfold D.read; rw [find_one]
theorem put_one (nm s t : Tx) (y z : Nat) : D.put ⟨nm, s, y⟩ [⟨nm, t, z⟩] = [⟨nm, s, y⟩] := by
  unfold D.put
  rw [if_neg (by show ¬ D.lt nm nm = true; rw [D.lt_irrefl]; decide), if_pos rfl]
theorem Ep.epoch {l : List D.F} {now : Nat} (h : Ep l now) : (epochD l).1 = now := by
  rcases h.st with ⟨rfl, rfl⟩ | ⟨s, k, rfl, h0, -, -⟩
  · show (marksOf []).1 = 0
    rw [marks_nil]
  · unfold epochD full
    rw [read_one, h0]
theorem Ep.crash {l : List D.F} {now : Nat} (h : Ep l now) (ks : List Int) : Ep (D.crash ks l) now := by
  have : D.Full l := by
    rcases h.st with ⟨rfl, -⟩ | ⟨s, k, rfl, -, -, -⟩
    · exact fun f hf => by cases hf
    · exact fun f hf => by rw [List.mem_singleton] at hf; subst hf; rfl
  rw [D.crash_full this]
  exact h
theorem append_one {room y : Nat} {nm s t : Tx} (hn : nameL nm = true) (hr : s.length + t.length ≤ room) : D.append room nm t [⟨nm, s, y⟩] = (0, [⟨nm, s ++ t, y⟩]) := by
  unfold D.append
  rw [if_neg (by rw [hn]; decide), if_neg (by rw [find_one]; intro h; cases h.1), if_neg (by simp [D.used]; omega), find_one]
  dsimp only
  rw [put_one]
theorem sync_one (nm s : Tx) (y : Nat) : D.sync nm [⟨nm, s, y⟩] = (0, [full nm s]) := by
  unfold D.sync
  rw [find_one]
  dsimp only
  rw [put_one]
  rfl
theorem mark_name : nameL markN = true := by decide +kernel
theorem frame_le {e : Nat} (h2 : e ≤ far) : (F.frame (N.putL e)).length ≤ 14 := by
  have := (put_good h2).2
  rw [F.frame_len]
  omega
/-- An epoch that is right, and not below the one that is there, is kept. -/
theorem Ep.raise {room : Nat} {l : List D.F} {now : Nat} (h : Ep l now) (hr : 400 ≤ room) {z : Int} (h1 : 1 ≤ z) (h2 : z ≤ far) (hn : (now : Int) ≤ z) : ∃ l2, raiseD room z l = (0, l2) ∧ Ep l2 z.toNat := by
  have h1n : 1 ≤ z.toNat := by omega
  have h2n : z.toNat ≤ far := by omega
  have he := h.epoch
  unfold raiseD
  rw [if_neg (by omega), he, if_neg (by omega)]
  have hfl := frame_le h2n
  rcases h.st with ⟨rfl, rfl⟩ | ⟨s, k, rfl, h0, hk, hl⟩
  · rw [if_pos (by omega)]
    have ha : D.append room markN (F.frame (N.putL z.toNat)) [] = (0, [⟨markN, F.frame (N.putL z.toNat), 0⟩]) := append_new mark_name rfl (by simp) (by simp [D.used]; omega)
    have hk : keepD room z.toNat [] = (0, [⟨markN, F.frame (N.putL z.toNat), 0⟩]) := by
      have : epochD [] = (0, 0, true) := marks_nil
      unfold keepD
      rw [this, if_pos ⟨rfl, by simp⟩, ha]
    rw [hk, if_pos rfl]
    dsimp only
    rw [sync_one]
    refine ⟨_, rfl, ⟨.inr ⟨_, 1, rfl, marks_one h1n h2n, by omega, by omega⟩⟩⟩
  · by_cases hlt : now < z.toNat
    · rw [if_pos hlt]
      have hep : epochD [full markN s] = (now, k, true) := by unfold epochD full; rw [read_one, h0]
      by_cases h20 : k ≤ 20
      · have hk : keepD room z.toNat [full markN s] = (0, [⟨markN, s ++ F.frame (N.putL z.toNat), s.length⟩]) := by
          unfold keepD
          rw [hep, if_pos ⟨rfl, h20⟩]
          exact append_one mark_name (by omega)
        rw [hk, if_pos rfl]
        dsimp only
        rw [sync_one]
        refine ⟨_, rfl, ⟨.inr ⟨_, k + 1, rfl, marks_more h0 h2n hlt, by omega, by rw [List.length_append]; omega⟩⟩⟩
      · have hk : keepD room z.toNat [full markN s] = (0, [full markN (F.frame (N.putL z.toNat))]) := by
          unfold keepD
          rw [hep, if_neg (fun h => h20 h.2)]
          have hd : D.del temp [full markN s] = [full markN s] := D.del_none (by unfold full; rw [D.find, if_neg (show ¬ markN = temp by decide)]; rfl)
          rw [replace_ok mark_name (by rw [hd]; simp) (by rw [hd]; simp [D.used, full]; rw [F.frame_len] at hfl; omega), hd]
          unfold full
          rw [put_one]
        rw [hk, if_pos rfl]
        dsimp only
        rw [full, sync_one]
        exact ⟨_, rfl, ⟨.inr ⟨_, 1, rfl, marks_one h1n h2n, by omega, by omega⟩⟩⟩
    · rw [if_neg hlt, full, sync_one]
      refine ⟨_, rfl, ⟨.inr ⟨s, k, rfl, ?_, hk, hl⟩⟩⟩
      rw [h0, show now = z.toNat by omega]
theorem Ep.low {room : Nat} {l : List D.F} {now : Nat} (h : Ep l now) {z : Int} (h1 : 1 ≤ z) (h2 : z ≤ far) (hn : z < now) : raiseD room z l = (10, l) := by
  unfold raiseD
  rw [if_neg (by omega), h.epoch, if_pos (by omega)]
theorem raise_arg {room : Nat} {z : Int} {l : List D.F} (h : z < 1 ∨ (far : Int) < z) : raiseD room z l = (1, l) := by
  unfold raiseD
  rw [if_pos h]

/-- Any bytes of both files. -/
theorem sync_find {nm : Tx} {l : List D.F} (h : (D.sync nm l).1 = 0) : ∃ f, D.find nm l = some f ∧ (D.sync nm l).2 = D.put (full nm f.data) l := by
  unfold D.sync at h ⊢
  cases hf : D.find nm l with
  | none => rw [hf] at h; cases h
  | some f => exact ⟨f, rfl, rfl⟩
theorem full_find (nm s : Tx) (l : List D.F) : D.find nm (D.put (full nm s) l) = some (full nm s) := D.find_put (f := full nm s) l
theorem read_full {nm s : Tx} {l : List D.F} (h : D.find nm l = some (full nm s)) : D.read nm l = (s, 0) := by unfold D.read; rw [h]; rfl
/-- A Raise that says OK has left the epoch there, synced. -/
theorem raise_ok {room : Nat} {z : Int} {l l2 : List D.F} (H : raiseD room z l = (0, l2)) : (1 ≤ z ∧ z ≤ far) ∧ (epochD l).1 ≤ z.toNat ∧ ∃ s, D.find markN l2 = some (full markN s) ∧ (marksOf s).1 = z.toNat := by
  unfold raiseD at H
  by_cases h1 : z < 1 ∨ (far : Int) < z
  · rw [if_pos h1] at H; cases H
  rw [if_neg h1] at H
  by_cases h2 : z.toNat < (epochD l).1
  · rw [if_pos h2] at H; cases H
  rw [if_neg h2] at H
  refine ⟨by omega, by omega, ?_⟩
  have h1n : 1 ≤ z.toNat := by omega
  have h2n : z.toNat ≤ far := by omega
  by_cases h3 : (epochD l).1 < z.toNat
  · rw [if_pos h3] at H
    by_cases h4 : (keepD room z.toNat l).1 = 0
    · rw [if_pos h4] at H
      obtain ⟨f, hf, hs⟩ := sync_find (nm := markN) (l := (keepD room z.toNat l).2) (by rw [H])
      rw [H] at hs
      dsimp only at hs
      rw [hs, full_find]
      refine ⟨f.data, rfl, ?_⟩
      unfold keepD at h4 hf
      by_cases h5 : (epochD l).2.2 = true ∧ (epochD l).2.1 ≤ 20
      · rw [if_pos h5] at h4 hf
        rw [append_zero h4] at hf
        cases hm : D.find markN l with
        | none =>
          rw [hm] at hf
          dsimp only at hf
          rw [D.find_put (f := ⟨markN, _, 0⟩)] at hf
          cases hf
          dsimp only
          rw [marks_one h1n h2n]
        | some g =>
          rw [hm] at hf
          dsimp only at hf
          rw [D.find_put (f := ⟨markN, _, _⟩)] at hf
          cases hf
          dsimp only
          have hg : marksOf g.data = ((epochD l).1, (epochD l).2.1, true) := by
            have : epochD l = marksOf g.data := by unfold epochD D.read; rw [hm]
            rw [← this, ← h5.1]
          rw [marks_more hg h2n h3]
      · rw [if_neg h5] at h4 hf
        rcases replace_is (room := room) (p := N.putL z.toNat) l mark_name with ⟨_, h7⟩ | ⟨h7, _⟩
        · rw [h7, full_find] at hf
          cases hf
          show (marksOf (F.frame (N.putL z.toNat))).1 = z.toNat
          rw [marks_one h1n h2n]
        · exact absurd h4 h7
    · rw [if_neg h4] at H
      rw [H] at h4
      exact absurd rfl h4
  · rw [if_neg h3] at H
    obtain ⟨f, hf, hs⟩ := sync_find (nm := markN) (l := l) (by rw [H])
    rw [H] at hs
    dsimp only at hs
    rw [hs, full_find]
    refine ⟨f.data, rfl, ?_⟩
    have : epochD l = marksOf f.data := by unfold epochD D.read; rw [hf]
    rw [← this]
    omega
/-- A Raise makes a disk longer by a frame at most. -/
theorem used_sync {nm : Tx} {l : List D.F} (h : D.Sorted l) : D.used (D.sync nm l).2 ≤ D.used l ∧ (D.sync nm l).2.length ≤ l.length := by
  unfold D.sync
  cases hf : D.find nm l with
  | none => exact ⟨Nat.le_refl _, Nat.le_refl _⟩
  | some f =>
    dsimp only
    have h1 := D.used_put (f := ⟨nm, f.data, f.data.length⟩) h
    have h2 := D.length_put (f := ⟨nm, f.data, f.data.length⟩) h
    dsimp only at h1 h2
    rw [hf] at h1 h2
    simp only [D.lenAt] at h1
    rw [if_neg (by simp)] at h2
    omega
theorem used_append {room : Nat} {nm s : Tx} {l : List D.F} (h : D.Sorted l) : D.used (D.append room nm s l).2 ≤ D.used l + s.length ∧ (D.append room nm s l).2.length ≤ l.length + 1 := by
  by_cases h0 : (D.append room nm s l).1 = 0
  · rw [append_zero h0]
    cases hf : D.find nm l with
    | none =>
      dsimp only
      have h1 := D.used_put (f := ⟨nm, s, 0⟩) h
      have h2 := D.length_put (f := ⟨nm, s, 0⟩) h
      dsimp only at h1 h2
      rw [hf] at h1 h2
      simp only [D.lenAt] at h1
      rw [if_pos rfl] at h2
      omega
    | some f =>
      dsimp only
      have h1 := D.used_put (f := ⟨nm, f.data ++ s, f.syn⟩) h
      have h2 := D.length_put (f := ⟨nm, f.data ++ s, f.syn⟩) h
      dsimp only at h1 h2
      rw [hf] at h1 h2
      simp only [D.lenAt, List.length_append] at h1
      rw [if_neg (by simp)] at h2
      omega
  · rw [append_err h0]
    omega
theorem used_del_le {nm : Tx} {l : List D.F} (h : D.Sorted l) : D.used (D.del nm l) ≤ D.used l ∧ (D.del nm l).length ≤ l.length := by
  have h1 := D.used_del (n := nm) h
  have h2 := D.length_del (n := nm) h
  omega
theorem used_full {nm s : Tx} {l : List D.F} (h : D.Sorted l) : D.used (D.put (full nm s) l) ≤ D.used l + s.length ∧ (D.put (full nm s) l).length ≤ l.length + 1 := by
  have h1 := D.used_put (f := full nm s) h
  have h2 := D.length_put (f := full nm s) h
  rw [show (full nm s).data = s from rfl] at h1
  split at h2 <;> omega
theorem used_replace {room : Nat} {nm p : Tx} {l : List D.F} (hn : nameL nm = true) (h : D.Sorted l) : D.used (replaceD room nm p l).2 ≤ D.used l + (p.length + 8) ∧ (replaceD room nm p l).2.length ≤ l.length + 1 := by
  have h1 := used_del_le (nm := temp) h
  rcases replace_is (room := room) (p := p) l hn with ⟨_, h7⟩ | ⟨_, h7⟩
  · rw [h7]
    have h2 := used_full (nm := nm) (s := F.frame p) (D.sorted_del (n := temp) h)
    rw [F.frame_len] at h2
    omega
  · rw [h7]
    omega
theorem used_raise {room : Nat} {z : Int} {l : List D.F} (h : D.Inv room l) : D.used (raiseD room z l).2 ≤ D.used l + 14 ∧ (raiseD room z l).2.length ≤ l.length + 1 := by
  unfold raiseD
  by_cases h1 : z < 1 ∨ (far : Int) < z
  · rw [if_pos h1]; dsimp only; omega
  rw [if_neg h1]
  by_cases h2 : z.toNat < (epochD l).1
  · rw [if_pos h2]; dsimp only; omega
  rw [if_neg h2]
  have hfl := frame_le (e := z.toNat) (by omega)
  have hk : D.used (keepD room z.toNat l).2 ≤ D.used l + 14 ∧ (keepD room z.toNat l).2.length ≤ l.length + 1 := by
    unfold keepD
    split
    · have := used_append (room := room) (nm := markN) (s := F.frame (N.putL z.toNat)) h.sorted
      omega
    · have := used_replace (room := room) (p := N.putL z.toNat) mark_name h.sorted
      rw [F.frame_len] at hfl
      omega
  split
  · split
    · have := used_sync (nm := markN) (keep_inv (room := room) (e := z.toNat) h).sorted
      omega
    · exact hk
  · have := used_sync (nm := markN) h.sorted
    omega
/-- The law's disk: two files of any bytes. -/
theorem two_inv {s t : Tx} (hs : s.length ≤ 2000) (ht : t.length ≤ 2000) : D.append 100000 fileN s [] = (0, [⟨fileN, s, 0⟩]) ∧ D.append 100000 markN t [⟨fileN, s, 0⟩] = (0, [⟨markN, t, 0⟩, ⟨fileN, s, 0⟩]) := by
  have hf : D.find markN [⟨fileN, s, 0⟩] = none := by rw [D.find, if_neg (show ¬ fileN = markN by decide)]; rfl
  refine ⟨append_new (by decide +kernel) rfl (by simp) (by simp [D.used]; omega), ?_⟩
  rw [append_new mark_name hf (by simp) (by simp [D.used]; omega)]
  unfold D.put
  rw [if_neg (show ¬ D.lt fileN markN = true by decide +kernel), if_neg (show ¬ fileN = markN by decide)]
theorem two_facts {s t : Tx} (hs : s.length ≤ 2000) (ht : t.length ≤ 2000) : D.Inv 100000 [⟨fileN, s, 0⟩] ∧ D.Inv 100000 [⟨markN, t, 0⟩, ⟨fileN, s, 0⟩] ∧ D.used [⟨markN, t, 0⟩, ⟨fileN, s, 0⟩] ≤ 4000 := by
  have h1 := two_inv hs ht
  have h2 := (D.inv_nil 100000).append (n := fileN) (s := s)
  rw [h1.1] at h2
  have h3 := h2.append (n := markN) (s := t)
  dsimp only at h3
  rw [h1.2] at h3
  exact ⟨h2, h3, by simp [D.used]; omega⟩
theorem two_load (s t : Tx) : loadD [⟨markN, t, 0⟩, ⟨fileN, s, 0⟩] = match loadL s with | none => (2, 0, []) | some x => (0, x) := by
  have hf : D.find fileN [⟨markN, t, 0⟩, ⟨fileN, s, 0⟩] = some ⟨fileN, s, 0⟩ := by rw [D.find, if_neg (show ¬ markN = fileN by decide), D.find, if_pos rfl]
  unfold loadD
  rw [hf]
  rfl
theorem tells_save {l : List D.F} (h : D.Inv 100000 l) (hu : D.used l ≤ 9000) (hl : l.length ≤ 30) (ks : List Int) : ∃ l2, saveD 100000 9 [2, 5] l = (0, l2) ∧ loadD (D.crash ks l2) = (0, 9, [2, 5]) := by
  have hr : right 9 [2, 5] = true := by decide
  have hd := used_del_le (nm := temp) h.sorted
  have hp := (payload_good hr).2
  have h1 : saveD 100000 9 [2, 5] l = (0, D.put (full fileN (F.frame (payload 9 [2, 5]))) (D.del temp l)) := by
    unfold saveD
    rw [if_pos hr]
    exact replace_ok (by decide +kernel) (by omega) (by omega)
  refine ⟨_, h1, ?_⟩
  have hf := crash_find (ks := ks) (full_find fileN (F.frame (payload 9 [2, 5])) (D.del temp l)) rfl
  unfold loadD
  rw [hf]
  dsimp only
  rw [show (full fileN (F.frame (payload 9 [2, 5]))).data = F.frame (payload 9 [2, 5]) from rfl, load_frame hr]
  rfl
theorem tells_raise {z : Int} {l l2 : List D.F} (H : raiseD 100000 z l = (0, l2)) (ks : List Int) : (epochD (D.crash ks l2)).1 = z.toNat ∧ ((epochD l).1 : Int) ≤ z := by
  obtain ⟨h1, h2, s, h3, h4⟩ := raise_ok H
  refine ⟨?_, by omega⟩
  unfold epochD
  rw [read_full (crash_find h3 rfl), h4]
end Go.Proofs.Ytmfhipjceeijmaa.A
