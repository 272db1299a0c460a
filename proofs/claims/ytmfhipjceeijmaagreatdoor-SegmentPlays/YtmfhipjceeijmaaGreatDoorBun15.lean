/-
  Own texts, joined: DiskA
-/
import Derived.Test.YtmfhipjceeijmaaGreatDoorBun12
import Derived.Test.YtmfhipjceeijmaaGreatDoorBun7
import Derived.Maps.OwnSet
import Derived.Maps.OwnOps
import Derived.Maps.RangeWalk
import Derived.Lib.AppendStr
import Derived.StringKeys

/-
  The landed disk in memory: a map of files, each of which owns its bytes.
-/
namespace Go.Proofs.YtmfhipjceeijmaaGreatDoor.D
open Go.RowKit Go.Maps

/-- How an element of the map reads: as itself. -/
def Rv (v : Value) : Option (DataW Value × List MemPlace) :=
  match v with
  | .agg cs => match cs.toList with
    | [.slice _ _ _, .int k _] => if k = .i64 then some (.held v, []) else none
    | _ => none
  | _ => none
theorem rv_mk (a : Option Addr) (n c : Nat) (z : Int) : Rv (.agg #[.slice a n c, .int .i64 z]) = some (.held (.agg #[.slice a n c, .int .i64 z]), []) := rfl
theorem rv_inv {v : Value} {y : DataW Value × List MemPlace} (h : Rv v = some y) : ∃ a n c z, v = .agg #[.slice a n c, .int .i64 z] ∧ y = (.held v, []) := by
  unfold Rv at h
  split at h
  · rename_i cs
    split at h
    · rename_i a n c k z hc
      split at h
      · rename_i hk
        subst hk
        refine ⟨a, n, c, z, ?_, (Option.some.inj h).symm⟩
        congr 1
        exact Array.ext' hc
      · cases h
    · cases h
  · cases h
theorem rv_eq {v x : Value} {ps : List MemPlace} (h : Rv v = some (.held x, ps)) : v = x := by
  obtain ⟨a, n, c, z, rfl, e⟩ := rv_inv h
  cases e
  rfl
/-- A file's element in the map: where its bytes lie, how many are synced. -/
def fV (loc : Tx → Value) (f : F) : Value := .agg #[loc f.name, .int .i64 (f.syn : Int)]
def eD (loc : Tx → Value) (f : F) : DataW Value := .held (fV loc f)
def upd (loc : Tx → Value) (n : Tx) (v : Value) : Tx → Value := fun m => if m = n then v else loc m
theorem upd_same (loc : Tx → Value) (n : Tx) (v : Value) : upd loc n v n = v := by simp [upd]
theorem upd_ne {loc : Tx → Value} {n m : Tx} {v : Value} (h : m ≠ n) : upd loc n v m = loc m := by simp [upd, h]
theorem entD_congr {loc loc2 : Tx → Value} {l : List F} (h : ∀ f ∈ l, loc f.name = loc2 f.name) : entD (eD loc) l = entD (eD loc2) l := by
  unfold entD
  refine List.map_congr_left fun f hf => ?_
  simp only [eD, fV, h f hf]
theorem put_upd (loc : Tx → Value) {f : F} {l : List F} (v : Value) (hs : Sorted l) : (mapD (eD loc) l).put (.string f.name) (.held (.agg #[v, .int .i64 (f.syn : Int)])) = mapD (eD (upd loc f.name v)) (put f l) := by
  have h1 := put_mapD (eD (upd loc f.name v)) (f := f) hs
  rw [← h1]
  have e1 : eD (upd loc f.name v) f = .held (.agg #[v, .int .i64 (f.syn : Int)]) := by simp only [eD, fV, upd_same]
  rw [e1]
  show DataW.map (DataW.insert _ (List.filter _ (entD (eD loc) l))) = DataW.map (DataW.insert _ (List.filter _ (entD (eD (upd loc f.name v)) l)))
  rw [del_entD, del_entD, entD_congr (loc2 := upd loc f.name v) fun g hg => (upd_ne (mem_del hg).2).symm]
/-- The disk in block p: its map in block m, a file's bytes where loc says. -/
structure DA (bs : Nat) (w : World) (p m room : Nat) (l : List F) (loc : Tx → Value) : Prop where
  blk : w.heap[p]? = some (.cells #[.int .i64 (room : Int), .map (some m)] 101 (0, 0))
  lop : bs ≤ p
  lom : bs ≤ m
  map : w.ownsMap Tryz.prog 9 Rv m l.length (mapD (eD loc) l)
  row : ∀ f ∈ l, w.ownsRow bs 5 1 (loc f.name) f.data.length (Lib.byteCells f.data)
  apart : ∀ f ∈ l, ∀ g ∈ l, f.name ≠ g.name → ∀ k, (loc f.name).ownBlock = some k → (loc g.name).ownBlock ≠ some k
def SA (p m : Nat) (l : List F) (loc : Tx → Value) : Nat → Prop := fun k => k = p ∨ k = m ∨ ∃ f ∈ l, (loc f.name).ownBlock = some k
section
variable {bs : Nat} {w : World} {p m room : Nat} {l : List F} {loc : Tx → Value}
theorem owns_tight {n : Nat} (h : w.ownsMap Tryz.prog 9 Rv m n (mapD (eD loc) l)) : w.ownsMap Tryz.prog 9 Rv m l.length (mapD (eD loc) l) := by
  obtain ⟨es, clock, hb, F1, hs, hD⟩ := h
  refine ⟨es, clock, hb, F1, ?_, hD⟩
  have e1 := congrArg Maps.size hD
  rw [size_mapD] at e1
  rw [e1]
  simp [Maps.size, length_sorted]
theorem DA.pm (h : DA bs w p m room l loc) : p ≠ m := fun e => by
  obtain ⟨es, clock, hb, _⟩ := h.map
  rw [← e, h.blk] at hb
  cases hb
theorem own_blk {v : Value} {k n : Nat} {xs : List Value} (h : w.ownsRow bs 5 1 v n xs) (hk : v.ownBlock = some k) : bs ≤ k ∧ ∃ c, w.heap[k]? = some (.cells c 5 (0, 0)) := by
  rcases h.2 with ⟨rfl, _⟩ | ⟨g, cap, cur, rfl, hb, hg, _⟩
  · cases hk
  · cases hk
    exact ⟨hb, cur, hg⟩
theorem DA.low (h : DA bs w p m room l loc) {k : Nat} (hk : SA p m l loc k) : bs ≤ k ∧ k < w.heap.size := by
  rcases hk with rfl | rfl | ⟨f, hf, hk⟩
  · exact ⟨h.lop, (Array.getElem?_eq_some_iff.1 h.blk).1⟩
  · exact ⟨h.lom, h.map.lt⟩
  · obtain ⟨h1, c, h2⟩ := own_blk (h.row f hf) hk
    exact ⟨h1, (Array.getElem?_eq_some_iff.1 h2).1⟩
theorem DA.typ (h : DA bs w p m room l loc) {k : Nat} {c : Array Value} {fr : Nat × Nat} (hk : SA p m l loc k) : w.heap[k]? ≠ some (.cells c 114 fr) := by
  intro e
  rcases hk with rfl | rfl | ⟨f, hf, hk⟩
  · rw [h.blk] at e
    simp at e
  · obtain ⟨es, clock, hb, _⟩ := h.map
    rw [hb] at e
    cases e
  · obtain ⟨h1, c, h2⟩ := own_blk (h.row f hf) hk
    rw [h2] at e
    simp at e
theorem row_ext {w' : World} {v : Value} {n : Nat} {xs : List Value} (h : w.ownsRow bs 5 1 v n xs) (hk : ∀ k, v.ownBlock = some k → w'.heap[k]? = w.heap[k]?) : w'.ownsRow bs 5 1 v n xs := by
  refine ⟨h.1, ?_⟩
  rcases h.2 with h2 | ⟨g, cap, cur, rfl, hb, hg, hr⟩
  · exact .inl h2
  · exact .inr ⟨g, cap, cur, rfl, hb, by rw [hk g rfl]; exact hg, hr⟩
theorem DA.ext (h : DA bs w p m room l loc) {w' : World} (hk : ∀ k, SA p m l loc k → w'.heap[k]? = w.heap[k]?) : DA bs w' p m room l loc := by
  refine ⟨by rw [hk p (.inl rfl)]; exact h.blk, h.lop, h.lom, ?_, fun f hf => row_ext (h.row f hf) fun k e => hk k (.inr (.inr ⟨f, hf, e⟩)), h.apart⟩
  obtain ⟨es, clock, hb, r⟩ := h.map
  exact ⟨es, clock, by rw [hk m (.inr (.inl rfl))]; exact hb, r⟩
theorem DA.drew (h : DA bs w p m room l loc) : DA bs w.drew p m room l loc := h.ext fun _ _ => rfl
theorem DA.drewN (h : DA bs w p m room l loc) (n : Nat) : DA bs (w.drewN n) p m room l loc := h.ext fun _ _ => rfl
theorem DA.below (h : DA bs w p m room l loc) {w' : World} (hb : Below w.heap.size w w') : DA bs w' p m room l loc := h.ext fun _ hk => hb.block _ (h.low hk).2
theorem DA.alloc (h : DA bs w p m room l loc) (o : Obj) : DA bs (w.alloc o) p m room l loc := h.below ((Below.refl _ _).alloc (Nat.le_refl _) o)
theorem DA.cells (h : DA bs w p m room l loc) : w.cell? ⟨p, 0, none⟩ = some (.int .i64 (room : Int)) ∧ w.cell? ⟨p, 1, none⟩ = some (.map (some m)) := by
  constructor <;> simp [World.cell?, h.blk]
theorem DA.notnew (h : DA bs w p m room l loc) : ¬ SA p m l loc w.heap.size := fun e => by have := (h.low e).2; omega
/-- A cell of another block is written. -/
theorem DA.set (h : DA bs w p m room l loc) {a : Addr} (ha : ¬ SA p m l loc a.block) (u : Value) : DA bs (w.setCell a u) p m room l loc :=
  h.ext fun k hk => Below.heap_setCell w a u k fun e => ha (e ▸ hk)
def zF : Value := .agg #[.slice none 0 0, .int .i64 0]
def lookV (loc : Tx → Value) : Option F → Value
  | some f => fV loc f
  | none => zF
theorem key_B (n : Tx) (hn : n.length ≤ 9223372036854775807) : keyOf Tryz.prog 9 (.string (B n)) = some (.string n) := by
  have := WideMaps.keyOf_string_mk (P := Tryz.prog) Tryz.underlying9 (s := B n) (by rw [size_B]; unfold maxLen; omega)
  rw [this]
  show some (Lit.string (L (B n))) = _
  rw [L_B]
theorem zero_file (w : World) : (zeroValue 108).run Tryz.prog w = .ok zF w := by kernel_rfl
/-- What is looked up in the map. -/
theorem DA.look (h : DA bs w p m room l loc) (n : Tx) (hn : n.length ≤ 9223372036854775807) : (Instr.lookup 99 (.map (some m)) (.string (B n)) true).run Tryz.prog w = .ok (.tuple #[lookV loc (find n l), .bool (find n l).isSome]) w := by
  obtain ⟨v, ps, hrun, hv⟩ := h.map.look_ok (string_keyed Tryz.underlying9) Tryz.underlying99 (zero_file w) (zd := .held zF) (zp := []) (rv_mk none 0 0 0) (key_B n hn)
  rw [has_mapD] at hrun
  rw [hrun]
  rw [at_mapD] at hv
  have : v = lookV loc (find n l) := by
    cases hf : find n l with
    | none => rw [hf] at hv; exact rv_eq hv
    | some f => rw [hf] at hv; exact rv_eq hv
  rw [this]
theorem DA.look1 (h : DA bs w p m room l loc) (n : Tx) (hn : n.length ≤ 9223372036854775807) : (Instr.lookup 99 (.map (some m)) (.string (B n)) false).run Tryz.prog w = .ok (lookV loc (find n l)) w := by
  obtain ⟨v, ps, hrun, hv⟩ := h.map.lookup (string_keyed Tryz.underlying9) Tryz.underlying99 (zero_file w) (zd := .held zF) (zp := []) (rv_mk none 0 0 0) (key_B n hn)
  rw [hrun]
  rw [at_mapD] at hv
  have : v = lookV loc (find n l) := by
    cases hf : find n l with
    | none => rw [hf] at hv; exact rv_eq hv
    | some f => rw [hf] at hv; exact rv_eq hv
  rw [this]
theorem DA.len (h : DA bs w p m room l loc) (ty : TypeId) : (Builtin.len_ #[99] ty #[.map (some m)]).run Tryz.prog w = .ok (.int .i64 (l.length : Int)) w := by
  have := h.map.len (e := 108) Tryz.underlying99 ty
  rw [size_mapD] at this
  exact this
theorem put_mem {f g : F} (hs : Sorted l) (h : g ∈ put f l) : g = f ∨ (g ∈ l ∧ g.name ≠ f.name) := by
  by_cases e : g.name = f.name
  · have h1 := find_mem (sorted_put hs) h
    rw [e, find_put] at h1
    exact .inl (Option.some.inj h1).symm
  · rcases mem_put h with rfl | h
    · exact absurd rfl e
    · exact .inr ⟨h, e⟩
/-- The disk, but for the bytes of the file of one name. -/
structure DW (bs : Nat) (w : World) (p m room : Nat) (l : List F) (loc : Tx → Value) (n : Tx) : Prop where
  blk : w.heap[p]? = some (.cells #[.int .i64 (room : Int), .map (some m)] 101 (0, 0))
  lop : bs ≤ p
  lom : bs ≤ m
  map : w.ownsMap Tryz.prog 9 Rv m l.length (mapD (eD loc) l)
  row : ∀ f ∈ l, f.name ≠ n → w.ownsRow bs 5 1 (loc f.name) f.data.length (Lib.byteCells f.data)
  apart : ∀ f ∈ l, ∀ g ∈ l, f.name ≠ n → g.name ≠ n → f.name ≠ g.name → ∀ k, (loc f.name).ownBlock = some k → (loc g.name).ownBlock ≠ some k
theorem DA.dw (h : DA bs w p m room l loc) (n : Tx) : DW bs w p m room l loc n := ⟨h.blk, h.lop, h.lom, h.map, fun f hf _ => h.row f hf, fun f hf g hg _ _ => h.apart f hf g hg⟩
def SW (p m : Nat) (l : List F) (loc : Tx → Value) (n : Tx) : Nat → Prop := fun k => k = p ∨ k = m ∨ ∃ f ∈ l, f.name ≠ n ∧ (loc f.name).ownBlock = some k
theorem DW.low {n : Tx} (h : DW bs w p m room l loc n) {k : Nat} (hk : SW p m l loc n k) : bs ≤ k ∧ k < w.heap.size := by
  rcases hk with rfl | rfl | ⟨f, hf, hn, hk⟩
  · exact ⟨h.lop, (Array.getElem?_eq_some_iff.1 h.blk).1⟩
  · exact ⟨h.lom, h.map.lt⟩
  · obtain ⟨h1, c, h2⟩ := own_blk (h.row f hf hn) hk
    exact ⟨h1, (Array.getElem?_eq_some_iff.1 h2).1⟩
theorem DW.ext {n : Tx} (h : DW bs w p m room l loc n) {w' : World} (hk : ∀ k, SW p m l loc n k → w'.heap[k]? = w.heap[k]?) : DW bs w' p m room l loc n := by
  refine ⟨by rw [hk p (.inl rfl)]; exact h.blk, h.lop, h.lom, ?_, fun f hf hn => row_ext (h.row f hf hn) fun k e => hk k (.inr (.inr ⟨f, hf, hn, e⟩)), h.apart⟩
  obtain ⟨es, clock, hb, r⟩ := h.map
  exact ⟨es, clock, by rw [hk m (.inr (.inl rfl))]; exact hb, r⟩
theorem DW.below {n : Tx} (h : DW bs w p m room l loc n) {w' : World} (hb : Below w.heap.size w w') : DW bs w' p m room l loc n := h.ext fun _ hk => hb.block _ (h.low hk).2
theorem DW.cell {n : Tx} (h : DW bs w p m room l loc n) : w.cell? ⟨p, 1, none⟩ = some (.map (some m)) := by simp [World.cell?, h.blk]
theorem DW.pm {n : Tx} (h : DW bs w p m room l loc n) : p ≠ m := fun e => by
  obtain ⟨es, clock, hb, _⟩ := h.map
  rw [← e, h.blk] at hb
  cases hb
/-- The bytes of the one file are written, or lie elsewhere. -/
theorem DA.wrote (h : DA bs w p m room l loc) {n : Tx} {v : Value} {k2 : Nat} {xs : List Value} (hr : w.ownsRow bs 5 1 v k2 xs) (hap : ∀ g ∈ l, g.name ≠ n → ∀ k, v.ownBlock = some k → (loc g.name).ownBlock ≠ some k) {w' : World} (hg : w.grownBy w' v.ownBlock) : DW bs w' p m room l loc n :=
  (h.dw n).ext fun k hk => by
    refine hg.block k ((h.dw n).low hk).2 fun e => ?_
    obtain ⟨_, c, hc⟩ := own_blk hr e.symm
    rcases hk with rfl | rfl | ⟨f, hf, hn, hk⟩
    · rw [h.blk] at hc
      simp at hc
    · obtain ⟨es, clock, hb, _⟩ := h.map
      rw [hb] at hc
      cases hc
    · exact hap f hf hn k e.symm hk
/-- A file is stored. -/
theorem DW.store (f : F) (h : DW bs w p m room l loc f.name) (hs : Sorted l) (hl : l.length ≤ 1000) (hn : f.name.length ≤ 9223372036854775807) (a : Option Addr) (c : Nat) (hr : w.ownsRow bs 5 1 (.slice a f.data.length c) f.data.length (Lib.byteCells f.data))
    (hap : ∀ g ∈ l, g.name ≠ f.name → ∀ k, (Value.slice a f.data.length c).ownBlock = some k → (loc g.name).ownBlock ≠ some k) :
    ∃ w', (Instr.mapUpdate 99 (.map (some m)) (.string (B f.name)) (.agg #[.slice a f.data.length c, .int .i64 (f.syn : Int)])).run Tryz.prog w = .ok () w' ∧ DA bs w' p m room (put f l) (upd loc f.name (.slice a f.data.length c)) ∧ w.mapTurned w' m := by
  obtain ⟨w', hrun, hown, hturn⟩ := h.map.store (string_keyed Tryz.underlying9) Tryz.underlying99 (by unfold maxLen; omega) (key_B f.name hn) (rv_mk a f.data.length c (f.syn : Int))
  rw [put_upd loc _ hs] at hown
  have hne : ∀ k : Nat, (∃ c, w.heap[k]? = some (.cells c 5 (0, 0))) → w'.heap[k]? = w.heap[k]? := fun k ⟨c, hk⟩ => by
    refine hturn.grown.block k (Array.getElem?_eq_some_iff.1 hk).1 fun e => ?_
    cases e
    obtain ⟨es, clock, hb, _⟩ := h.map
    rw [hb] at hk
    cases hk
  refine ⟨w', hrun, ⟨?_, h.lop, h.lom, owns_tight hown, fun g hg => ?_, fun f1 h1 g1 h2 hfg k hk => ?_⟩, hturn⟩
  · rw [hturn.grown.block p (Array.getElem?_eq_some_iff.1 h.blk).1 fun e => h.pm (by cases e; rfl)]
    exact h.blk
  · rcases put_mem hs hg with rfl | ⟨hg, e⟩
    · rw [upd_same]
      exact row_ext hr fun k hk => hne k (own_blk hr hk).2
    · rw [upd_ne e]
      exact row_ext (h.row g hg e) fun k hk => hne k (own_blk (h.row g hg e) hk).2
  · rcases put_mem hs h1 with e3 | ⟨h3, e1⟩
    · subst e3
      rcases put_mem hs h2 with rfl | ⟨h2, e2⟩
      · exact absurd rfl hfg
      · rw [upd_same] at hk
        rw [upd_ne e2]
        exact hap g1 h2 e2 k hk
    · rw [upd_ne e1] at hk
      rcases put_mem hs h2 with e3 | ⟨h4, e2⟩
      · rw [e3, upd_same]
        exact fun e => hap f1 h3 e1 k e hk
      · rw [upd_ne e2]
        exact h.apart f1 h3 g1 h4 e1 e2 hfg k hk
/-- A file is deleted. -/
theorem DA.drop (h : DA bs w p m room l loc) (n : Tx) (hn : n.length ≤ 9223372036854775807) (ty : TypeId) :
    ∃ w', (Builtin.delete_ #[99, 9] ty #[.map (some m), .string (B n)]).run Tryz.prog w = .ok (.tuple #[]) w' ∧ DA bs w' p m room (del n l) loc ∧ w.mapTurned w' m := by
  obtain ⟨w', hrun, hown, hturn⟩ := h.map.drop (string_keyed Tryz.underlying9) Tryz.underlying99 (key_B n hn) ty
  rw [del_mapD] at hown
  refine ⟨w', hrun, ⟨?_, h.lop, h.lom, owns_tight hown, fun g hg => ?_, fun f1 h1 g1 h2 hfg k hk => h.apart f1 (mem_del h1).1 g1 (mem_del h2).1 hfg k hk⟩, hturn⟩
  · rw [hturn.grown.block p (Array.getElem?_eq_some_iff.1 h.blk).1 fun e => h.pm (by cases e; rfl)]
    exact h.blk
  · refine row_ext (h.row g (mem_del hg).1) fun k hk => ?_
    obtain ⟨_, c, hc⟩ := own_blk (h.row g (mem_del hg).1) hk
    refine hturn.grown.block k (Array.getElem?_eq_some_iff.1 hc).1 fun e => ?_
    cases e
    obtain ⟨es, clock, hb, _⟩ := h.map
    rw [hb] at hc
    cases hc
end
end Go.Proofs.YtmfhipjceeijmaaGreatDoor.D
