/-
  The landed disk's calls: New, Used.
-/
import Derived.Test.YtmfhipjceeijmaaDiskG
namespace Go.Proofs.Ytmfhipjceeijmaa.D
open Go.RowKit Go.Maps
attribute [local go_sem] ext_Bd ext_Bl ext_Bt toList_B add_B size_B get_Bt

set_option maxHeartbeats 2000000 in
set_option maxRecDepth 100000 in
theorem new_bad (room : Int) (w : World) (h : room < 1 ∨ 1073741824 < room) :
    Calls Try.prog 18 #[.int .i64 room] w fun x w' => x = .returned (.tuple #[.pointer none, .int .i64 1]) ∧ Below w.heap.size w w' := by
  by_cases h1 : room < 1
  · go_enter Try.func18, Try.ntmps18
    go_wp2
    go_returns
    exact ⟨rfl, Below.refl _ _⟩
  · have h2 : 1073741824 < room := by omega
    go_enter Try.func18, Try.ntmps18
    go_wp2
    go_returns
    exact ⟨rfl, Below.refl _ _⟩
/-- A new disk, without files. -/
def NewAt (bs : Nat) (w : World) (room : Nat) (x : Ending) (w' : World) : Prop :=
  ∃ p m, x = .returned (.tuple #[dP p, .int .i64 0]) ∧ w.heap.size ≤ p ∧ w.heap.size ≤ m ∧ ∀ loc, DA bs w' p m room [] loc
set_option maxHeartbeats 2000000 in
set_option maxRecDepth 100000 in
theorem new_ok {bs : Nat} (room : Nat) (w : World) (hb : bs ≤ w.heap.size) (h1 : 1 ≤ room) (h2 : room ≤ 1073741824) :
    Calls Try.prog 18 #[.int .i64 (room : Int)] w fun x w' => NewAt bs w room x w' ∧ Below w.heap.size w w' := by
  have g1 : ¬ (room : Int) < 1 := by omega
  have g2 : ¬ (1073741824 : Int) < (room : Int) := by omega
  have hmm := @run_makeMap Try.prog
  have HD : Hid ((∀ loc, DA bs ((w.alloc (.map #[] 0)).alloc (.cells #[.int .i64 (room : Int), .map (some w.heap.size)] 59)) (w.heap.size + 1) w.heap.size room [] loc) ∧ Below w.heap.size w ((w.alloc (.map #[] 0)).alloc (.cells #[.int .i64 (room : Int), .map (some w.heap.size)] 59))) := Lib.hid (by
    obtain ⟨n1, n2, n3⟩ := two_new w (.map #[] 0) (.cells #[.int .i64 (room : Int), .map (some w.heap.size)] 59)
    refine ⟨fun loc => ⟨n2, by omega, hb, ?_, fun f hf => absurd hf (by simp), fun f hf => absurd hf (by simp)⟩, n3⟩
    have := (World.ownsMap_made w Try.prog 9 Rv).alloc (.cells #[.int .i64 (room : Int), .map (some w.heap.size)] 59)
    exact this)
  go_enter Try.func18, Try.ntmps18
  go_wp2
  go_returns
  exact ⟨⟨w.heap.size + 1, w.heap.size, rfl, by omega, Nat.le_refl _, HD.out.1⟩, HD.out.2⟩
/-- The bytes of those that are still to come. -/
def rest (left : Lit → Bool) : List F → Nat
  | [] => 0
  | f :: l => (if left (.string f.name) then f.data.length else 0) + rest left l
theorem rest_all {left : Lit → Bool} : ∀ {l : List F}, (∀ f ∈ l, left (.string f.name) = true) → rest left l = used l
  | [], _ => rfl
  | f :: l, h => by rw [rest, if_pos (h f (by simp)), rest_all fun g hg => h g (by simp [hg]), used]
theorem rest_none {left : Lit → Bool} : ∀ {l : List F}, (∀ kl, left kl = false) → rest left l = 0
  | [], _ => rfl
  | f :: l, h => by rw [rest, h, rest_none h]; rfl
theorem key_ne {a b : Tx} (h : a ≠ b) : (Lit.string a).sameKey (.string b) = false := by rw [same_string, decide_eq_false h]
theorem key_eq (a : Tx) : (Lit.string a).sameKey (.string a) = true := by rw [same_string, decide_eq_true rfl]
theorem rest_off {left : Lit → Bool} {n : Tx} : ∀ {l : List F}, (∀ f ∈ l, f.name ≠ n) → rest (fun z => left z && !z.sameKey (.string n)) l = rest left l
  | [], _ => rfl
  | f :: l, h => by
    rw [rest, rest, rest_off fun g hg => h g (by simp [hg]), key_ne (h f (by simp))]
    simp
theorem rest_step {left : Lit → Bool} {f : F} : ∀ {l : List F}, Sorted l → f ∈ l → left (.string f.name) = true → rest (fun z => left z && !z.sameKey (.string f.name)) l + f.data.length = rest left l
  | g :: l, hs, hm, hk => by
    obtain ⟨h1, h2⟩ := List.pairwise_cons.1 hs
    have hne : ∀ x ∈ l, g.name ≠ x.name := fun x hx e => by have := h1 x hx; rw [e, lt_irrefl] at this; cases this
    rcases List.mem_cons.1 hm with rfl | hm
    · rw [rest, rest, rest_off fun x hx e => hne x hx e.symm, key_eq, if_pos hk]
      simp
      omega
    · have := rest_step h2 hm hk
      rw [rest, rest, key_ne (hne f hm)]
      simp only [Bool.not_false, Bool.and_true]
      omega
theorem rest_le {left : Lit → Bool} : ∀ (l : List F), rest left l ≤ used l
  | [] => Nat.le_refl _
  | f :: l => by
    have := rest_le (left := left) l
    rw [rest, used]
    split <;> omega
/-- An element of the map: its slice, how many are synced. -/
structure El where
  a : Option Addr
  n : Nat
  c : Nat
  z : Int
def elV (e : El) : Value := .agg #[.slice e.a e.n e.c, .int .i64 e.z]
theorem el_inj {e : El} {a : Option Addr} {n c : Nat} {z : Int} (h : elV e = .agg #[.slice a n c, .int .i64 z]) : e = ⟨a, n, c, z⟩ := by
  obtain ⟨ea, en, ec, ez⟩ := e
  simp [elV] at h
  simp [h]
section
variable {bs : Nat} {w : World} {p m room : Nat} {l : List F} {loc : Tx → Value}
theorem files_key {key : Value} {kl : Lit} (h : keyOf Try.prog 9 key = some kl) : ∃ x : Tx, key = .string (B x) ∧ kl = .string x := by
  obtain ⟨x, hx, hk, _⟩ := Maps.keyOf_str Try.underlying9 h
  exact ⟨x, hx, hk⟩
/-- An entry of the map is a file. -/
theorem entry_file {x : Tx} {v : Value} {y : DataW Value × List MemPlace} (hv : Rv v = some y) (hat : ∀ zd, (mapD (eD loc) l).atKey (.string x) zd = y.1) : ∃ f, find x l = some f ∧ v = fV loc f := by
  obtain ⟨a, n, c, z, hv2, rfl⟩ := rv_inv hv
  cases hf : find x l with
  | none =>
    have h1 := hat .nil
    rw [at_mapD, hf] at h1
    cases h1
  | some f =>
    have h1 := hat .nil
    rw [at_mapD, hf] at h1
    have h2 : DataW.held (fV loc f) = DataW.held v := h1
    exact ⟨f, rfl, (DataW.held.inj h2).symm⟩
set_option maxHeartbeats 4000000 in
set_option maxRecDepth 100000 in
theorem used_l (h : DA bs w p m room l loc) (hs : Sorted l) (hu : used l ≤ 1000000000000) :
    Calls Try.prog 16 #[dP p] w fun x w' => x = .returned (.int .i64 (D.used l : Int)) ∧ Below w.heap.size w w' := by
  have c1 := h.cells.2
  have HM := Lib.hid h.map
  have HFV : Hid (∀ f, find f.name l = some f → ∃ a c, fV loc f = .agg #[.slice a f.data.length c, .int .i64 (f.syn : Int)]) := Lib.hid fun f hf => by
    obtain ⟨a, c, hfd⟩ := h.found hf
    have := hfd.look
    rw [hf] at this
    exact ⟨a, c, this⟩
  clear h
  go_enter Try.func16, Try.ntmps16
  go_wp2_with (first | (at_range; refine wpList_range_own _ rfl _ 57 rfl 9 55 (string_keyed Try.underlying9) Try.underlying57 Rv m l.length (mapD (eD loc) l) rfl HM.out ?_; intro w0 hrg0 hg0 hs0) | go_in)
  go_frame
  have hb0 : Below w.heap.size w w0 := ⟨hg0.os, hg0.tape, hg0.output, hg0.size, fun k hk => hg0.block k hk (by simp)⟩
  have HST := Lib.hid (And.intro hrg0 hb0)
  clear hrg0 hb0 hg0 hs0
  go_loopw [3] (fun u wr => ∃ (left : Lit → Bool) (cnt q : Nat), u = .int .i64 (q : Int) ∧ wr.ranges Try.prog 9 Rv m w.heap.size l.length (mapD (eD loc) l) left cnt ∧ q + rest left l = used l ∧ Below w.heap.size w wr) (fun _ wr => wr.rangeLeft m w.heap.size)
  case atStart => exact ⟨_, _, 0, rfl, HST.out.1, by rw [rest_all fun f hf => by rw [has_mapD, find_mem hs hf]; rfl]; omega, HST.out.2⟩
  case round =>
    obtain ⟨left, cnt, q, rfl, hrg, hq, hbel⟩ := hrel
    have HRG := Lib.hid hrg
    have HQ := Lib.hid hq
    have HBL := Lib.hid hbel
    clear hq hbel
    go_wp2_with (first
      | (at_next; refine wpList_next_ranges _ rfl _ rfl 9 (string_keyed Try.underlying9) Rv (fun x : Tx => .string (B x)) elV (fun key kl hk => by obtain ⟨x, hx, _⟩ := files_key hk; exact ⟨x, hx⟩) (fun v y hv => by obtain ⟨a, n, c, z, hv2, _⟩ := rv_inv hv; exact ⟨⟨a, n, c, z⟩, hv2⟩) m w.heap.size l.length _ _ _ rfl hrg ?_ ?_)
      | go_in)
    · intro hc0 hl0
      have e := HQ.out
      rw [rest_none hl0] at e
      have HE : Hid ((q : Int) = (used l : Int)) := Lib.hid (by omega)
      clear e
      go_wp2
      go_ret
      rw [HE.out]
      exact ⟨rfl, HBL.out⟩
    · intro x c kl yd yp w2 cnt2 hkey hlk hv hat hrg2 hlt hg2 hs2 hen
      obtain ⟨x', ex, rfl⟩ := files_key hkey
      obtain rfl : x = x' := B_inj (Value.string.inj ex)
      obtain ⟨f, hf, hvf⟩ := entry_file hv hat
      obtain ⟨hfm, rfl⟩ := find_some hf
      obtain ⟨a, c2, hfa⟩ := HFV.out f hf
      have hc : c = ⟨a, f.data.length, c2, (f.syn : Int)⟩ := el_inj (hvf.trans hfa)
      subst hc
      have hen2 : (Instr.entry (.pointer (some ⟨w.heap.size, 0, none⟩))).run Try.prog w2 = .ok (.tuple #[.string (B f.name), .agg #[.slice a f.data.length c2, .int .i64 (f.syn : Int)]]) w2 := hen
      rw [show elV ⟨a, f.data.length, c2, (f.syn : Int)⟩ = .agg #[.slice a f.data.length c2, .int .i64 (f.syn : Int)] from rfl]
      have hq2 := rest_step hs hfm hlk
      have hqb : (q : Int) + (f.data.length : Int) ≤ 1000000000000 := by have := HQ.out; omega
      have HQ2 : Hid (q + f.data.length + rest (fun z => left z && !z.sameKey (.string f.name)) l = used l) := Lib.hid (by have := HQ.out; omega)
      have HR2 := Lib.hid (hrg2.alloc (.cells #[.slice a f.data.length c2, .int .i64 (f.syn : Int)] 55))
      have HBL2 := Lib.hid ((HBL.out.grown hg2 HBL.out.size fun k e => by cases e; exact Nat.le_refl _).alloc (by rw [hs2]; exact HBL.out.size) (.cells #[.slice a f.data.length c2, .int .i64 (f.syn : Int)] 55))
      clear hs2 hg2 hrg2 hq2 hvf hfa hv hat hkey ex hlk HQ HBL hf hfm hen
      go_wp2
      go_roundw
      case rel => exact ⟨_, cnt2, q + f.data.length, by go_num, HR2.out, HQ2.out, HBL2.out⟩
      case measure => rw [HR2.out.left_eq, HRG.out.left_eq]; exact hlt
end
end Go.Proofs.Ytmfhipjceeijmaa.D
