/-
  Own texts, joined: DiskB
-/
import Derived.Test.YtmfhipjceeijmaaGreatDoorBun15
import Derived.Deep.DeepCutAuto

/-
  The landed disk's files: with, torn, allSynced, copied.
-/
namespace Go.Proofs.YtmfhipjceeijmaaGreatDoor.D
open Go.RowKit Go.Maps
attribute [local go_sem] ext_Bd ext_Bl ext_Bt toList_B add_B size_B get_Bt

theorem strB (s : Tx) : Lib.strCells (B s) = Lib.byteCells s := rfl
section
variable {P : Program} (w : World)
/-- Where a text is appended: in the same row, or in a new block. -/
theorem text_where (base : Nat) (t u ty e : TypeId) (i : TypeInfo) (ht : P.underlying t = some (.slice e)) (hu : P.underlying u = some .string) (hi : P.info? e = some i) (hz : i.zero = some (.int .u8 0))
    (hsize : i.size = 1) (hby : i.bytes = 1) (v : Value) (n : Nat) (xs : List Value) (hown : w.ownsRow base e 1 v n xs) (s : ByteArray)
    (h63 : n + s.size ≤ maxLen) (hbytes : n + s.size ≤ 140737488355328) {v' : Value} {w' : World} (hr : (Builtin.append_ #[t, u] ty #[v, .string s]).run P w = .ok v' w') :
    v'.ownBlock = v.ownBlock ∨ v'.ownBlock = some w.heap.size := by
  have hsmall : n + s.size ≤ 9223372036854775807 := by simp only [maxLen] at h63; omega
  have hxl : xs.length = n := by simpa using hown.1
  rcases hown.2 with ⟨rfl, rfl⟩ | ⟨g, cap, cur, rfl, hbg, hg, hnc, hcm, hcs, htake⟩
  · by_cases hm : s.size = 0
    · have hf := Lib.run_firstCells_string (P := P) w 1 s
      rw [hm] at hf
      simp [Builtin.append_, run_underlying ht, run_underlying hu, sizeOf, typeInfo, hi, hsize, Builtin.lenOf, hm, hf] at hr
      exact .inl (by rw [← hr.1])
    · have h2 := run_append_nil_string (P := P) w t u ty e i (.int .u8 0) ht hu hi hz s (by omega) (by omega) (by rw [hby]; omega)
      rw [hr] at h2
      simp only [Result.ok.injEq] at h2
      exact .inr (by rw [h2.1]; rfl)
  · by_cases hroom : n + s.size ≤ cap
    · have hcs' : cur.size = cap := by simpa using hcs
      have h2 := Lib.run_append_room_string (P := P) w t u ty e i ht hu hi hsize g n cap cur hg s hroom (by omega)
      rw [hr] at h2
      simp only [Result.ok.injEq] at h2
      exact .inl (by rw [h2.1]; rfl)
    · have holds : ∀ j u, xs[j]? = some u → w.cell? ((⟨g, 0, none⟩ : Addr).add j) = some u := hown.cells (g := g) rfl
      have h2 := Lib.run_append_grow_string (P := P) w t u ty e i (.int .u8 0) ht hu hi hz ⟨g, 0, none⟩ n cap xs (by rw [hsize]; simpa using hxl) holds s (by omega) (by omega) (by rw [hby]; exact growslice_fits (by omega) (by omega))
      rw [hr] at h2
      simp only [Result.ok.injEq] at h2
      exact .inr (by rw [h2.1]; rfl)
theorem wpList_append_text {ops : Array Oper} {rest : List Oper} {o : Oper} {a : Act} {Q : Exit → Act → World → Prop} (hgd : o.guard = none) (sl x : Operand) (t u : TypeId)
    (ho : o.op = .call { callee := .builtin .append, args := #[sl, x], argTypes := #[t, u] })
    (base : Nat) (e : TypeId) (i : TypeInfo) (ht : P.underlying t = some (.slice e)) (hu : P.underlying u = some .string) (hi : P.info? e = some i) (hz : i.zero = some (.int .u8 0)) (hsize : i.size = 1) (hby : i.bytes = 1)
    (v : Value) (n : Nat) (xs : List Value) (hs : a.eval sl = v) (hown : w.ownsRow base e 1 v n xs) (s : Tx) (hx : a.eval x = .string (B s))
    (h63 : n + s.length ≤ maxLen) (hbytes : n + s.length ≤ 140737488355328) (hbase : base ≤ w.heap.size)
    (h : ∀ v' w', w'.ownsRow base e 1 v' (n + s.length) (xs ++ Lib.byteCells s) → w.grownBy w' v.ownBlock → (v'.ownBlock = v.ownBlock ∨ v'.ownBlock = some w.heap.size) → wpList P ops Q rest (a.put o.dst v') w') : wpList P ops Q (o :: rest) a w := by
  refine wpList_plain hgd fun K hK => ?_
  obtain ⟨v', w', hr, h2, h3, -⟩ := Lib.run_append_own_string (P := P) w base t u o.type e i ht hu hi hz hsize hby v n xs hown (B s) (by rw [size_B]; exact h63) (by rw [size_B]; exact hbytes) hbase
  have h4 := text_where w base t u o.type e i ht hu hi hz hsize hby v n xs hown (B s) (by rw [size_B]; exact h63) (by rw [size_B]; exact hbytes) hr
  rw [size_B, strB] at h2
  unfold Oper.wp execOp
  simp only [ho, resolve, invoke, builtin, Sem.run_bind, Sem.run_pure, Result.andThen_ok, List.map_toArray, List.map_cons, List.map_nil, hs, hx, hr]
  exact hK _ _ (h v' w' h2 h3 h4)
end
/-- Two new blocks. -/
theorem two_new (w : World) (A R : Obj) : ((w.alloc A).alloc R).heap[w.heap.size]? = some A ∧ ((w.alloc A).alloc R).heap[w.heap.size + 1]? = some R ∧ Below w.heap.size w ((w.alloc A).alloc R) := by
  have hs : (w.alloc A).heap.size = w.heap.size + 1 := by simp
  have h1 : (w.alloc A).heap[w.heap.size]? = some A := heap_alloc_new w A
  have h2 : ((w.alloc A).alloc R).heap[w.heap.size]? = some A := by rw [heap_alloc_old _ _ (by omega)]; exact h1
  have h3 : ((w.alloc A).alloc R).heap[w.heap.size + 1]? = some R := by have := heap_alloc_new (w.alloc A) R; rwa [hs] at this
  exact ⟨h2, h3, ((Below.refl _ w).alloc (Nat.le_refl _) A).alloc (by simp) R⟩
theorem set_at {w : World} {g : Nat} {cs : Array Value} {t : TypeId} (h : w.heap[g]? = some (.cells cs t (0, 0))) (j : Nat) (u : Value) : (w.setCell ⟨g, j, none⟩ u).heap[g]? = some (.cells (cs.setIfInBounds j u) t (0, 0)) := by
  obtain ⟨hlt, hk⟩ := Array.getElem?_eq_some_iff.1 h
  show (w.heap.modify g _)[g]? = _
  rw [Array.getElem?_eq_getElem (by rw [Array.size_modify]; exact hlt), Array.getElem_modify_self, hk]
  rfl
theorem set_off {w : World} {p : Addr} {u : Value} {k : Nat} (h : k ≠ p.block) : (w.setCell p u).heap[k]? = w.heap[k]? := Below.heap_setCell w p u k h
theorem blkC {w : World} {h : Nat} {cs : Array Value} {t : TypeId} (ho : w.heap[h]? = some (.cells cs t (0, 0))) (j : Nat) : w.cell? ⟨h, j, none⟩ = cs[j]? := by simp [World.cell?, ho]
theorem blkL {w : World} {h : Nat} {cs : Array Value} {t : TypeId} (ho : w.heap[h]? = some (.cells cs t (0, 0))) (j : Nat) : w.frozen? ⟨h, j, none⟩ = false := by simp [World.frozen?, ho]
theorem grown_set {w w' : World} {row : Option Nat} (h : w.grownBy w' row) {k : Nat} (hk : w.heap.size ≤ k) (j : Nat) (u : Value) : w.grownBy (w'.setCell ⟨k, j, none⟩ u) row :=
  ⟨h.os, h.tape, h.output, by simpa using h.size, fun i hi hr => by rw [set_off (show i ≠ k by omega)]; exact h.block i hi hr⟩
theorem grown_trans {a b c : World} {row : Option Nat} (h : a.grownBy b row) (k : b.grownBy c row) : a.grownBy c row :=
  ⟨k.os.trans h.os, k.tape.trans h.tape, k.output.trans h.output, Nat.le_trans h.size k.size, fun i hi hne => (k.block i (Nat.lt_of_lt_of_le hi h.size) hne).trans (h.block i hi hne)⟩
theorem grown_below {w w' : World} (h : Below w.heap.size w w') (row : Option Nat) : w.grownBy w' row := ⟨h.os, h.tape, h.output, h.size, fun i hi _ => h.block i hi⟩
theorem own_lt {w : World} {bs n : Nat} {v : Value} {xs : List Value} (h : w.ownsRow bs 5 1 v n xs) {k : Nat} (hk : v.ownBlock = some k) : k < w.heap.size := by
  obtain ⟨_, c, hc⟩ := own_blk h hk
  exact (Array.getElem?_eq_some_iff.1 hc).1
theorem own_form {w : World} {bs n : Nat} {v : Value} {xs : List Value} (h : w.ownsRow bs 5 1 v n xs) : ∃ a c, v = .slice a n c := by
  rcases h.2 with ⟨rfl, rfl⟩ | ⟨g, cap, cur, rfl, _⟩
  · exact ⟨_, _, rfl⟩
  · exact ⟨_, _, rfl⟩

theorem with_mid {w w2 w3 : World} {row : Option Nat} {x y u v : Value} {t t2 : TypeId} (hn : w2.heap[w.heap.size]? = some (.cells #[x, y] t (0, 0)) ∧ w2.heap[w.heap.size + 1]? = some (.cells #[u, v] t2 (0, 0))) (hlt : ∀ k, row = some k → k < w.heap.size) (hg : w2.grownBy w3 row) :
    w3.heap[w.heap.size]? = some (.cells #[x, y] t (0, 0)) ∧ w3.heap[w.heap.size + 1]? = some (.cells #[u, v] t2 (0, 0)) ∧ w3.cell? ⟨w.heap.size, 0, none⟩ = some x ∧ w3.cell? ⟨w.heap.size, 1, none⟩ = some y ∧ (∀ j, w3.frozen? ⟨w.heap.size, j, none⟩ = false) ∧ (∀ j, w3.frozen? ⟨w.heap.size + 1, j, none⟩ = false) ∧ w3.cell? ⟨w.heap.size + 1, 0, none⟩ = some u ∧ w3.cell? ⟨w.heap.size + 1, 1, none⟩ = some v := by
  have h0 : w3.heap[w.heap.size]? = some (.cells #[x, y] t (0, 0)) := (hg.block _ (Array.getElem?_eq_some_iff.1 hn.1).1 fun e => by have := hlt _ e.symm; omega).trans hn.1
  have h1 : w3.heap[w.heap.size + 1]? = some (.cells #[u, v] t2 (0, 0)) := (hg.block _ (Array.getElem?_eq_some_iff.1 hn.2).1 fun e => by have := hlt _ e.symm; omega).trans hn.2
  exact ⟨h0, h1, by rw [blkC h0]; rfl, by rw [blkC h0]; rfl, blkL h0, blkL h1, by rw [blkC h1]; rfl, by rw [blkC h1]; rfl⟩
theorem res_two {w : World} {g : Nat} {x y a b : Value} {t : TypeId} (h : w.heap[g]? = some (.cells #[x, y] t (0, 0))) : ((w.setCell ⟨g, 0, none⟩ a).setCell ⟨g, 1, none⟩ b).cell? ⟨g, 0, none⟩ = some a ∧ ((w.setCell ⟨g, 0, none⟩ a).setCell ⟨g, 1, none⟩ b).cell? ⟨g, 1, none⟩ = some b := by
  have h1 := set_at h 0 a
  have h2 := set_at h1 1 b
  exact ⟨by rw [blkC h2]; rfl, by rw [blkC h2]; rfl⟩
set_option maxHeartbeats 2000000 in
set_option maxRecDepth 100000 in
theorem with_l {bs : Nat} (a : Option Addr) (c : Nat) (z : Int) (d s : Tx) (w : World) (hr : w.ownsRow bs 5 1 (.slice a d.length c) d.length (Lib.byteCells d)) (hb : bs ≤ w.heap.size) (hl : d.length + s.length ≤ 100000000000) :
    Calls Tryz.prog 65 #[.agg #[.slice a d.length c, .int .i64 z], .string (B s)] w fun x w' => (∃ a2 c2, x = .returned (.agg #[.slice a2 (d ++ s).length c2, .int .i64 z]) ∧ w'.ownsRow bs 5 1 (.slice a2 (d ++ s).length c2) (d ++ s).length (Lib.byteCells (d ++ s)) ∧ ((Value.slice a2 (d ++ s).length c2).ownBlock = (Value.slice a d.length c).ownBlock ∨ ∃ k, w.heap.size ≤ k ∧ (Value.slice a2 (d ++ s).length c2).ownBlock = some k)) ∧ w.grownBy w' (Value.slice a d.length c).ownBlock := by
  obtain ⟨i0, hi, hz0, hz1, hz2⟩ := info_parts Tryz.infoByte
  obtain ⟨n1, n2, n3⟩ := two_new w (.cells #[.slice a d.length c, .int .i64 z] 108) (.cells #[.slice none 0 0, .int .i64 0] 108)
  have HR2 := Lib.hid (own_below hr n3)
  have HLT := Lib.hid (fun k (hk : (Value.slice a d.length c).ownBlock = some k) => own_lt hr hk)
  have HG := Lib.hid (grown_below n3 (Value.slice a d.length c).ownBlock)
  have HN := Lib.hid (And.intro n1 n2)
  have c0 := blkC n1 0
  have c1 := blkC n1 1
  simp at c0 c1
  clear n1 n2 n3 hr
  go_enter Tryz.func65, Tryz.ntmps65
  go_wp2_with (at_builtin; refine wpList_append_text _ rfl _ _ 106 9 rfl bs 5 i0 Tryz.underlying106 Tryz.underlying9 hi hz0 hz1 hz2 (.slice a d.length c) d.length (Lib.byteCells d) rfl HR2.out s rfl (by unfold maxLen; omega) (by omega) (by simp; omega) ?_; intro v' w3 hown' hgrow hwhere; obtain ⟨a2, c2, hv'⟩ := own_form hown'; subst hv'; have hX := with_mid HN.out HLT.out hgrow; have hG3 := Lib.hid (grown_trans HG.out hgrow); have hO3 := Lib.hid hown'; have hW3 := Lib.hid hwhere; clear hown' hgrow hwhere; obtain ⟨m0, m1, e0, e1, f0, f1, e2, e3⟩ := hX; have hM3 := Lib.hid (And.intro m0 m1); clear m0 m1)
  have HE := Lib.hid (res_two (a := .slice a2 (d.length + s.length) c2) (b := .int .i64 z) (x := .slice none 0 0) (y := .int .i64 0) (t := 108) (g := w.heap.size + 1) (w := w3.setCell ⟨w.heap.size, 0, none⟩ (.slice a2 (d.length + s.length) c2)) (by rw [set_off (show w.heap.size + 1 ≠ w.heap.size by omega)]; exact hM3.out.2))
  have HG9 := Lib.hid (grown_set (grown_set (grown_set hG3.out (Nat.le_refl _) 0 (.slice a2 (d.length + s.length) c2)) (Nat.le_succ _) 0 (.slice a2 (d.length + s.length) c2)) (Nat.le_succ _) 1 (.int .i64 z))
  have HO9 := Lib.hid (row_ext (w' := ((w3.setCell ⟨w.heap.size, 0, none⟩ (.slice a2 (d.length + s.length) c2)).setCell ⟨w.heap.size + 1, 0, none⟩ (.slice a2 (d.length + s.length) c2)).setCell ⟨w.heap.size + 1, 1, none⟩ (.int .i64 z)) hO3.out fun k hk => by
    have hk2 : k ≠ w.heap.size ∧ k ≠ w.heap.size + 1 := by
      rcases hW3.out with e | e
      · have := HLT.out k (by rw [← e]; exact hk)
        omega
      · rw [hk] at e
        have := Option.some.inj e
        simp at this
        omega
    rw [set_off hk2.2, set_off hk2.2, set_off hk2.1])
  have HW9 : Hid ((Value.slice a2 (d.length + s.length) c2).ownBlock = (Value.slice a d.length c).ownBlock ∨ ∃ k, w.heap.size ≤ k ∧ (Value.slice a2 (d.length + s.length) c2).ownBlock = some k) := Lib.hid (hW3.out.imp id fun e => ⟨_, by simp; omega, e⟩)
  generalize ((w3.setCell ⟨w.heap.size, 0, none⟩ (.slice a2 (d.length + s.length) c2)).setCell ⟨w.heap.size + 1, 0, none⟩ (.slice a2 (d.length + s.length) c2)).setCell ⟨w.heap.size + 1, 1, none⟩ (.int .i64 z) = w9 at *
  obtain ⟨k0, k1⟩ := HE.out
  refine bodyPost_ret (v := .agg #[.slice a2 (d.length + s.length) c2, .int .i64 z]) (by simp [results, Tryz.results65, go_sem, k0, k1]) rfl ⟨⟨a2, c2, ?_, ?_, ?_⟩, HG9.out⟩
  · rw [List.length_append]
  · rw [List.length_append, show Lib.byteCells (d ++ s) = Lib.byteCells d ++ Lib.byteCells s by simp [Lib.byteCells]]
    exact HO9.out
  · rw [List.length_append]
    exact HW9.out

set_option maxHeartbeats 2000000 in
set_option maxRecDepth 100000 in
theorem synced_l (a : Option Addr) (n c : Nat) (z : Int) (w : World) :
    Calls Tryz.prog 97 #[.agg #[.slice a n c, .int .i64 z]] w fun x w' => x = .returned (.agg #[.slice a n c, .int .i64 (n : Int)]) ∧ Below w.heap.size w w' := by
  have n3 := (two_new w (.cells #[.slice a n c, .int .i64 (n : Int)] 108) (.cells #[.slice a n c, .int .i64 (n : Int)] 108)).2.2
  have HB := Lib.hid n3
  clear n3
  go_enter Tryz.func97, Tryz.ntmps97
  go_wp2
  exact bodyPost_ret (v := .agg #[.slice a n c, .int .i64 (n : Int)]) (by simp [results, Tryz.results97, go_sem]) rfl ⟨rfl, HB.out⟩

theorem torn_mid {w w3 : World} {x y u v : Value} {t t2 : TypeId} (hn : ((w.alloc (.cells #[x, y] t)).alloc (.cells #[u, v] t2)).heap[w.heap.size]? = some (.cells #[x, y] t (0, 0)) ∧ ((w.alloc (.cells #[x, y] t)).alloc (.cells #[u, v] t2)).heap[w.heap.size + 1]? = some (.cells #[u, v] t2 (0, 0)) ∧ Below w.heap.size w ((w.alloc (.cells #[x, y] t)).alloc (.cells #[u, v] t2)))
    (hb : Below ((w.alloc (.cells #[x, y] t)).alloc (.cells #[u, v] t2)).heap.size ((w.alloc (.cells #[x, y] t)).alloc (.cells #[u, v] t2)) w3) :
    w3.cell? ⟨w.heap.size + 1, 0, none⟩ = some u ∧ w3.cell? ⟨w.heap.size + 1, 1, none⟩ = some v ∧ (∀ j, w3.frozen? ⟨w.heap.size + 1, j, none⟩ = false) ∧ Hid (w3.heap[w.heap.size + 1]? = some (.cells #[u, v] t2 (0, 0)) ∧ Below w.heap.size w w3) := by
  have h1 : w3.heap[w.heap.size + 1]? = some (.cells #[u, v] t2 (0, 0)) := (hb.block _ (Array.getElem?_eq_some_iff.1 hn.2.1).1).trans hn.2.1
  exact ⟨by rw [blkC h1]; rfl, by rw [blkC h1]; rfl, blkL h1, Lib.hid ⟨h1, hn.2.2.trans (hb.mono hn.2.2.size)⟩⟩
set_option maxHeartbeats 2000000 in
set_option maxRecDepth 100000 in
theorem torn_l (a : Option Addr) (n c k : Nat) (syn : Nat) (z : Int) (w : World) (hn : n ≤ c) (hc : n ≤ 100000000000) (hs : syn ≤ n) (hz : i64B z) (HK : Hid (syn + min z.toNat (n - syn) = k)) :
    Calls Tryz.prog 69 #[.agg #[.slice a n c, .int .i64 (syn : Int)], .int .i64 z] w fun x w' => x = .returned (.agg #[.slice a k c, .int .i64 (k : Int)]) ∧ Below w.heap.size w w' := by
  obtain ⟨hz1, hz2⟩ := hz
  have hk := HK.out
  have hkc : k ≤ c := by omega
  have hkn : k ≤ n := by omega
  have n3 := two_new w (.cells #[.slice a k c, .int .i64 (syn : Int)] 108) (.cells #[.slice none 0 0, .int .i64 0] 108)
  have HN := Lib.hid n3
  clear n3 HK
  by_cases t1 : z < 0
  · obtain rfl : k = syn := by omega
    have t2 : ¬ ((n : Int) - (k : Int)) < 0 := by omega
    clear hk
    go_enter Tryz.func69, Tryz.ntmps69
    go_wp2_with fail
    refine (synced_l a k c _ _).mono ?_
    rintro x w3 ⟨rfl, hb3⟩
    obtain ⟨e2, e3, f1, HM⟩ := torn_mid HN.out hb3
    clear hb3 HN
    go_wp2
    have HE := Lib.hid (res_two (a := .slice a k c) (b := .int .i64 ((k : Nat) : Int)) HM.out.1)
    have HG := Lib.hid ((HM.out.2.setCell (p := ⟨w.heap.size + 1, 0, none⟩) (Nat.le_succ _) (.slice a k c)).setCell (p := ⟨w.heap.size + 1, 1, none⟩) (Nat.le_succ _) (.int .i64 ((k : Nat) : Int)))
    generalize ((w3.setCell ⟨w.heap.size + 1, 0, none⟩ (.slice a k c)).setCell ⟨w.heap.size + 1, 1, none⟩ (.int .i64 ((k : Nat) : Int))) = w9 at *
    obtain ⟨k0, k1⟩ := HE.out
    exact bodyPost_ret (v := .agg #[.slice a k c, .int .i64 ((k : Nat) : Int)]) (by simp [results, Tryz.results69, go_sem, k0, k1]) rfl ⟨rfl, HG.out⟩
  · by_cases t2 : ((n : Int) - (syn : Int)) < z
    · obtain rfl : k = n := by omega
      clear hk
      go_enter Tryz.func69, Tryz.ntmps69
      go_wp2_with fail
      refine (synced_l a k c _ _).mono ?_
      rintro x w3 ⟨rfl, hb3⟩
      obtain ⟨e2, e3, f1, HM⟩ := torn_mid HN.out hb3
      clear hb3 HN
      go_wp2
      have HE := Lib.hid (res_two (a := .slice a k c) (b := .int .i64 ((k : Nat) : Int)) HM.out.1)
      have HG := Lib.hid ((HM.out.2.setCell (p := ⟨w.heap.size + 1, 0, none⟩) (Nat.le_succ _) (.slice a k c)).setCell (p := ⟨w.heap.size + 1, 1, none⟩) (Nat.le_succ _) (.int .i64 ((k : Nat) : Int)))
      generalize ((w3.setCell ⟨w.heap.size + 1, 0, none⟩ (.slice a k c)).setCell ⟨w.heap.size + 1, 1, none⟩ (.int .i64 ((k : Nat) : Int))) = w9 at *
      obtain ⟨k0, k1⟩ := HE.out
      exact bodyPost_ret (v := .agg #[.slice a k c, .int .i64 ((k : Nat) : Int)]) (by simp [results, Tryz.results69, go_sem, k0, k1]) rfl ⟨rfl, HG.out⟩
    · obtain ⟨q, rfl⟩ : ∃ q : Nat, z = q := ⟨z.toNat, by omega⟩
      obtain rfl : k = syn + q := by omega
      have ht : ((syn : Int) + (q : Int)).toNat = syn + q := by omega
      clear hk
      go_enter Tryz.func69, Tryz.ntmps69
      go_wp2_with fail
      refine (synced_l a (syn + q) c _ _).mono ?_
      rintro x w3 ⟨rfl, hb3⟩
      obtain ⟨e2, e3, f1, HM⟩ := torn_mid HN.out hb3
      clear hb3 HN
      go_wp2
      have HE := Lib.hid (res_two (a := .slice a (syn + q) c) (b := .int .i64 ((syn : Int) + (q : Int))) HM.out.1)
      have HG := Lib.hid ((HM.out.2.setCell (p := ⟨w.heap.size + 1, 0, none⟩) (Nat.le_succ _) (.slice a (syn + q) c)).setCell (p := ⟨w.heap.size + 1, 1, none⟩) (Nat.le_succ _) (.int .i64 ((syn : Int) + (q : Int))))
      generalize ((w3.setCell ⟨w.heap.size + 1, 0, none⟩ (.slice a (syn + q) c)).setCell ⟨w.heap.size + 1, 1, none⟩ (.int .i64 ((syn : Int) + (q : Int)))) = w9 at *
      obtain ⟨k0, k1⟩ := HE.out
      exact bodyPost_ret (v := .agg #[.slice a (syn + q) c, .int .i64 ((syn : Int) + (q : Int))]) (by simp [results, Tryz.results69, go_sem, k0, k1]) rfl ⟨by rw [show (((syn + q : Nat)) : Int) = (syn : Int) + (q : Int) by omega], HG.out⟩
end Go.Proofs.YtmfhipjceeijmaaGreatDoor.D
