/-
  The landed disk's Clone.
-/
import Derived.Test.YtamfhndcekcloaaDiskI
namespace Go.Proofs.Ytamfhndcekcloaa.D
open Go.RowKit Go.Maps
attribute [local go_sem] ext_Bd ext_Bl ext_Bt toList_B add_B size_B get_Bt

theorem find_filter {n : Tx} {q : F → Bool} : ∀ {l : List F}, Sorted l → find n (l.filter q) = match find n l with | some f => if q f = true then some f else none | none => none
  | [], _ => rfl
  | g :: l, hs => by
    obtain ⟨h1, h2⟩ := List.pairwise_cons.1 hs
    have ih := find_filter (n := n) (q := q) h2
    by_cases e : g.name = n
    · have hn : find n l = none := e ▸ find_behind h1
      rw [hn] at ih
      rw [find, if_pos e]
      by_cases hq : q g = true
      · rw [List.filter_cons, if_pos hq, find, if_pos e]
        simp [hq]
      · rw [List.filter_cons, if_neg hq, ih]
        simp [hq]
    · rw [find, if_neg e]
      by_cases hq : q g = true
      · rw [List.filter_cons, if_pos hq, find, if_neg e, ih]
      · rw [List.filter_cons, if_neg hq, ih]
theorem sorted_filter {q : F → Bool} {l : List F} (h : Sorted l) : Sorted (l.filter q) := List.Pairwise.sublist List.filter_sublist h
/-- Those that are no longer to come. -/
def doneL (left : Lit → Bool) (l : List F) : List F := l.filter fun f => !left (.string f.name)
theorem done_none {left : Lit → Bool} {l : List F} (h : ∀ f ∈ l, left (.string f.name) = true) : doneL left l = [] := by
  unfold doneL
  rw [List.filter_eq_nil_iff]
  intro f hf
  simp [h f hf]
theorem done_all {left : Lit → Bool} {l : List F} (h : ∀ kl, left kl = false) : doneL left l = l := by
  unfold doneL
  rw [List.filter_eq_self]
  intro f _
  simp [h]
theorem done_step {left : Lit → Bool} {l : List F} {f : F} (hs : Sorted l) (hf : find f.name l = some f) (hk : left (.string f.name) = true) : put f (doneL left l) = doneL (fun z => left z && !z.sameKey (.string f.name)) l ∧ find f.name (doneL left l) = none := by
  have h0 : find f.name (doneL left l) = none := by
    unfold doneL
    rw [find_filter hs, hf]
    simp [hk]
  refine ⟨D.ext (sorted_put (sorted_filter hs)) (sorted_filter hs) fun n => ?_, h0⟩
  by_cases e : f.name = n
  · subst e
    rw [find_put]
    unfold doneL
    rw [find_filter hs, hf]
    simp [hk, key_eq]
  · rw [find_put_ne e]
    unfold doneL
    rw [find_filter hs, find_filter hs]
    cases hn : find n l with
    | none => rfl
    | some g =>
      obtain ⟨_, rfl⟩ := find_some hn
      simp [key_ne (fun h => e h.symm)]
theorem done_len {left : Lit → Bool} (l : List F) : (doneL left l).length ≤ l.length := List.length_filter_le _ _
/-- A map of files, without a disk. -/
structure DM (bs : Nat) (w : World) (m : Nat) (l : List F) (loc : Tx → Value) : Prop where
  lom : bs ≤ m
  map : w.ownsMap Try.prog 9 Rv m l.length (mapD (eD loc) l)
  row : ∀ f ∈ l, w.ownsRow bs 5 1 (loc f.name) f.data.length (Lib.byteCells f.data)
  apart : ∀ f ∈ l, ∀ g ∈ l, f.name ≠ g.name → ∀ k, (loc f.name).ownBlock = some k → (loc g.name).ownBlock ≠ some k
section
variable {bs : Nat} {w : World} {p m room : Nat} {l : List F} {loc : Tx → Value}
theorem DM.ext (h : DM bs w m l loc) {w' : World} (hk : ∀ k, bs ≤ k → k < w.heap.size → w'.heap[k]? = w.heap[k]?) : DM bs w' m l loc := by
  refine ⟨h.lom, ?_, fun f hf => row_ext (h.row f hf) fun k e => hk k (own_blk (h.row f hf) e).1 (own_lt (h.row f hf) e), h.apart⟩
  have hlt := h.map.lt
  obtain ⟨es, clock, hb, r⟩ := h.map
  exact ⟨es, clock, by rw [hk m h.lom hlt]; exact hb, r⟩
theorem DM.below (h : DM bs w m l loc) {w' : World} (hb : Below w.heap.size w w') : DM bs w' m l loc := h.ext fun k _ hk => hb.block k hk
theorem DM.grown (h : DM bs w m l loc) {w' : World} {r : Nat} (hg : w.grownBy w' (some r)) (hm : r ≠ m) (hr : ∀ f ∈ l, (loc f.name).ownBlock ≠ some r) : DM bs w' m l loc := by
  refine ⟨h.lom, ?_, fun f hf => row_ext (h.row f hf) fun k e => hg.block k (own_lt (h.row f hf) e) fun e2 => hr f hf (by rw [e, e2]), h.apart⟩
  exact h.map.kept hg fun e => hm (Option.some.inj e).symm
theorem DM.store (h : DM bs w m l loc) (hs : Sorted l) (hl : l.length ≤ 1000) (f : F) (hn : f.name.length ≤ 9223372036854775807) (a : Option Addr) (c : Nat) (hr : w.ownsRow bs 5 1 (.slice a f.data.length c) f.data.length (Lib.byteCells f.data))
    (hap : ∀ g ∈ l, ∀ k, (Value.slice a f.data.length c).ownBlock = some k → (loc g.name).ownBlock ≠ some k) :
    ∃ w', (Instr.mapUpdate 55 (.map (some m)) (.string (B f.name)) (.agg #[.slice a f.data.length c, .int .i64 (f.syn : Int)])).run Try.prog w = .ok () w' ∧ DM bs w' m (put f l) (upd loc f.name (.slice a f.data.length c)) ∧ w.grownBy w' (some m) := by
  obtain ⟨w', hrun, hown, hturn⟩ := h.map.store (string_keyed Try.underlying9) Try.underlying55 (by unfold maxLen; omega) (key_B f.name hn) (rv_mk a f.data.length c (f.syn : Int))
  rw [put_upd loc _ hs] at hown
  have hne : ∀ k : Nat, (∃ c, w.heap[k]? = some (.cells c 5 (0, 0))) → w'.heap[k]? = w.heap[k]? := fun k ⟨c, hk⟩ => by
    refine hturn.grown.block k (Array.getElem?_eq_some_iff.1 hk).1 fun e => ?_
    cases e
    obtain ⟨es, clock, hb, _⟩ := h.map
    rw [hb] at hk
    cases hk
  refine ⟨w', hrun, ⟨h.lom, owns_tight hown, fun g hg => ?_, fun f1 h1 g1 h2 hfg k hk => ?_⟩, hturn.grown⟩
  · rcases put_mem hs hg with rfl | ⟨hg, e⟩
    · rw [upd_same]
      exact row_ext hr fun k hk => hne k (own_blk hr hk).2
    · rw [upd_ne e]
      exact row_ext (h.row g hg) fun k hk => hne k (own_blk (h.row g hg) hk).2
  · rcases put_mem hs h1 with e3 | ⟨h3, e1⟩
    · subst e3
      rcases put_mem hs h2 with rfl | ⟨h2, e2⟩
      · exact absurd rfl hfg
      · rw [upd_same] at hk
        rw [upd_ne e2]
        exact hap g1 h2 k hk
    · rw [upd_ne e1] at hk
      rcases put_mem hs h2 with e3 | ⟨h4, e2⟩
      · rw [e3, upd_same]
        exact fun e => hap f1 h3 k e hk
      · rw [upd_ne e2]
        exact h.apart f1 h3 g1 h4 hfg k hk
theorem DA.nam (h : DA bs w p m room l loc) {f : F} (hf : f ∈ l) : f.name.length ≤ 9223372036854775807 := by
  have := strKeys_le h.map Try.underlying9
  rw [keys_mapD] at this
  have h2 := this f.name (List.mem_map.2 ⟨f, hf, rfl⟩)
  unfold maxLen at h2
  exact h2
/-- A copy of the disk. -/
def CloneAt (w : World) (room : Nat) (l : List F) (x : Ending) (w' : World) : Prop :=
  ∃ q m2 loc2, x = .returned (dP q) ∧ DA w.heap.size w' q m2 room l loc2
theorem make_hint (n : Int) (w : World) : (Instr.makeMap 55 (some (.int .i64 n))).run Try.prog w = .ok (.map (some w.heap.size)) (w.alloc (.map #[] 0)) := by kernel_rfl
theorem wpList_upd {P : Program} {w : World} {ops : Array Oper} {rest : List Oper} {o : Oper} {a : Act} {Q : Exit → Act → World → Prop} (hgd : o.guard = none) (mm kk vv : Operand) (t : TypeId) (hop : o.op = Op.mapUpdate t mm kk vv)
    {b : Nat} {key val : Value} (hm : a.eval mm = .map (some b)) (hk : a.eval kk = key) (hv : a.eval vv = val) {R : World → Prop} (hrun : ∃ w', (Instr.mapUpdate t (.map (some b)) key val).run P w = .ok () w' ∧ R w') (h : ∀ w', R w' → wpList P ops Q rest (a.put o.dst undef) w') : wpList P ops Q (o :: rest) a w := by
  refine wpList_plain hgd fun K' hK' => ?_
  obtain ⟨w', hr, hR⟩ := hrun
  unfold Oper.wp
  simp [execOp, hop, hm, hk, hv, hr, Result.andThen]
  exact hK' _ _ (h w' hR)
theorem DM.off {r n : Nat} {D : DataW Value} {left : Lit → Bool} {cnt m2 : Nat} {k : List F} {loc2 : Tx → Value} {b2 : Nat} (h : DM b2 w m2 k loc2) (hrg : w.ranges Try.prog 9 Rv m r n D left cnt) : ∀ f ∈ k, (loc2 f.name).ownBlock ≠ some r := fun f hf e => by
  obtain ⟨_, c, hc⟩ := own_blk (h.row f hf) e
  obtain ⟨es, clock, since, seen, c0, _, _, _, _, hr, _⟩ := hrg
  rw [hr] at hc
  cases hc
set_option maxHeartbeats 4000000 in
set_option maxRecDepth 100000 in
theorem clone_d (h : DA bs w p m room l loc) (hs : Sorted l) (hl : l.length ≤ 1000) (hdl : ∀ f ∈ l, f.data.length ≤ 100000000000) :
    Calls Try.prog 13 #[dP p] w fun x w' => CloneAt w room l x w' ∧ Below w.heap.size w w' := by
  have c1 := h.cells.2
  have kl := h.len
  have km := fun n => make_hint n w
  have hb1 := (Below.refl w.heap.size w).alloc (Nat.le_refl _) (.map #[] 0)
  have hd1 := h.below hb1
  have c2 := hd1.cells.2
  have HD := Lib.hid h
  have HB1 := Lib.hid hb1
  have HM1 := Lib.hid hd1.map
  have HN0 : Hid (DM w.heap.size (w.alloc (.map #[] 0)) w.heap.size [] loc) := Lib.hid ⟨Nat.le_refl _, World.ownsMap_made w Try.prog 9 Rv, fun f hf => absurd hf (by simp), fun f hf => absurd hf (by simp)⟩
  have HSZ : Hid ((w.alloc (.map #[] 0)).heap.size = w.heap.size + 1) := Lib.hid (by simp)
  clear h hb1 hd1
  go_enter Try.func13, Try.ntmps13
  go_wp2_with (first | (at_range; refine wpList_range_own _ rfl _ 55 rfl 9 62 (string_keyed Try.underlying9) Try.underlying55 Rv m l.length (mapD (eD loc) l) rfl HM1.out ?_; intro w0 hrg0 hg0 hs0) | go_in)
  go_frame
  rw [HSZ.out] at hrg0
  rw [HSZ.out]
  have HST : Hid (w0.ranges Try.prog 9 Rv m (w.heap.size + 1) l.length (mapD (eD loc) l) (has (mapD (eD loc) l)) (size (mapD (eD loc) l)) ∧ DM w.heap.size w0 w.heap.size [] loc ∧ Below w.heap.size w w0) := Lib.hid ⟨hrg0, HN0.out.ext fun k _ hk => hg0.block k hk (by simp), HB1.out.grown hg0 HB1.out.size (fun k e => by cases e)⟩
  clear hrg0 hg0 hs0 HN0
  have hml : m < w.heap.size := HD.out.map.lt
  go_loopw [4] (fun _ wr => ∃ (left : Lit → Bool) (cnt : Nat) (loc2 : Tx → Value), wr.ranges Try.prog 9 Rv m (w.heap.size + 1) l.length (mapD (eD loc) l) left cnt ∧ DM w.heap.size wr w.heap.size (doneL left l) loc2 ∧ Below w.heap.size w wr) (fun _ wr => wr.rangeLeft m (w.heap.size + 1))
  case atStart => exact ⟨_, _, loc, HST.out.1, by rw [done_none fun f hf => by rw [has_mapD, find_mem hs hf]; rfl]; exact HST.out.2.1, HST.out.2.2⟩
  case round =>
    obtain ⟨left, cnt, loc2, hrg, hdm, hbel⟩ := hrel
    have HRG := Lib.hid hrg
    have HDM := Lib.hid hdm
    have HBL := Lib.hid hbel
    clear hdm hbel HST
    go_wp2_with (first
      | (at_next; refine wpList_next_ranges _ rfl _ rfl 9 (string_keyed Try.underlying9) Rv (fun x : Tx => .string (B x)) elV (fun key kl hk => by obtain ⟨x, hx, _⟩ := files_key hk; exact ⟨x, hx⟩) (fun v y hv => by obtain ⟨a, n, c, z, hv2, _⟩ := rv_inv hv; exact ⟨⟨a, n, c, z⟩, hv2⟩) m (w.heap.size + 1) l.length _ _ _ rfl hrg ?_ ?_)
      | go_in)
    · intro hc0 hl0
      have hdm := HDM.out
      rw [done_all hl0] at hdm
      have hda := HD.out.below HBL.out
      have c4 := hda.cells.1
      have HF : Hid (CloneAt w room l (.returned (dP wr.heap.size)) (wr.alloc (.cells #[.int .i64 (room : Int), .map (some w.heap.size)] 57)) ∧ Below w.heap.size w (wr.alloc (.cells #[.int .i64 (room : Int), .map (some w.heap.size)] 57))) := Lib.hid ⟨⟨wr.heap.size, w.heap.size, loc2, rfl, by
        have h5 := hdm.below ((Below.refl wr.heap.size wr).alloc (Nat.le_refl _) (.cells #[.int .i64 (room : Int), .map (some w.heap.size)] 57))
        exact ⟨heap_alloc_new wr _, HBL.out.size, Nat.le_refl _, h5.map, h5.row, h5.apart⟩⟩, HBL.out.alloc HBL.out.size _⟩
      clear hdm hda
      go_wp2
      go_ret
      exact HF.out
    · intro x c kl yd yp w2 cnt2 hkey hlk hv hat hrg2 hlt hg2 hs2 hen
      obtain ⟨x', ex, rfl⟩ := files_key hkey
      obtain rfl : x = x' := B_inj (Value.string.inj ex)
      obtain ⟨f, hf, hvf⟩ := entry_file hv hat
      obtain ⟨hfm, rfl⟩ := find_some hf
      obtain ⟨a, c2, hfd⟩ := HD.out.found hf
      have hlo := hfd.look
      rw [hf] at hlo
      have hc : c = ⟨a, f.data.length, c2, (f.syn : Int)⟩ := el_inj (hvf.trans hlo)
      subst hc
      have hen2 : (Instr.entry (.pointer (some ⟨w.heap.size + 1, 0, none⟩))).run Try.prog w2 = .ok (.tuple #[.string (B f.name), .agg #[.slice a f.data.length c2, .int .i64 (f.syn : Int)]]) w2 := hen
      rw [show elV ⟨a, f.data.length, c2, (f.syn : Int)⟩ = .agg #[.slice a f.data.length c2, .int .i64 (f.syn : Int)] from rfl]
      have hB2 := HBL.out.grown hg2 HBL.out.size fun k e => by cases e; exact Nat.le_succ _
      have hsz2 : w.heap.size ≤ w2.heap.size := hB2.size
      have hBx := hB2.alloc hsz2 (.cells #[.slice a f.data.length c2, .int .i64 (f.syn : Int)] 62)
      have hbx := (Below.refl w2.heap.size w2).alloc (Nat.le_refl _) (.cells #[.slice a f.data.length c2, .int .i64 (f.syn : Int)] 62)
      have HBX := Lib.hid hBx
      have HRX := Lib.hid (hrg2.alloc (.cells #[.slice a f.data.length c2, .int .i64 (f.syn : Int)] 62))
      have HDX := Lib.hid ((HDM.out.grown hg2 (by omega) (HDM.out.off hrg)).below hbx)
      have HROW := Lib.hid (own_below hfd.row hBx)
      have HDS := Lib.hid (done_step hs hf hlk)
      have hfl := hdl f hfm
      have HKN := Lib.hid (HD.out.nam hfm)
      have HLT := Lib.hid hlt
      clear hs2 hg2 hrg2 hvf hv hat hkey ex hlk hf hfm hen hlo hfd hB2 hsz2 hBx hbx hlt HBL HDM
      go_wp2_with fail
      refine (copied_l a c2 (f.syn : Int) f.data _ HROW.out hfl).mono ?_
      rintro x w4 ⟨⟨a3, c3, rfl, hown⟩, hb4⟩
      have HB4 := Lib.hid (HBX.out.trans (hb4.mono HBX.out.size))
      have HR4 := Lib.hid (HRX.out.kept (grown_below hb4 none) (by simp) (by simp))
      have HD4 := Lib.hid (HDX.out.below hb4)
      have HLK := Lib.hid (HD4.out.store (sorted_filter hs) (Nat.le_trans (done_len l) hl) f HKN.out a3 c3 (own_base hown HBX.out.size) fun g hg k hk e => by
        have h1 := (own_blk hown hk).1
        have h2 := own_lt (HDX.out.row g hg) e
        omega)
      clear hown hb4 HBX HRX HDX HROW
      go_wp2_with (at_mapUpdate; refine wpList_upd rfl _ _ _ _ rfl rfl rfl rfl HLK.out ?_; rintro w5 ⟨hd5, hg5⟩)
      rw [HDS.out.1] at hd5
      have HD5 := Lib.hid hd5
      have HR5 := Lib.hid (HR4.out.kept hg5 (fun e => by have := Option.some.inj e; omega) (fun e => by have := Option.some.inj e; omega))
      have HB5 := Lib.hid (HB4.out.grown hg5 HB4.out.size fun k e => by cases e; exact Nat.le_refl _)
      clear hd5 hg5 HLK HD4 HR4 HB4
      go_frame
      go_roundw
      case rel => exact ⟨_, cnt2, _, HR5.out, HD5.out, HB5.out⟩
      case measure => rw [HR5.out.left_eq, HRG.out.left_eq]; exact HLT.out
end
end Go.Proofs.Ytamfhndcekcloaa.D
