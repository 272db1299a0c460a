/-
  Walks of package record: rows of marks of the call's own, and inForce.
-/
import Derived.Test.YtfhopgficckjkaaRecordArgs
import Derived.Test.YtfhopgficckjkaaRecordMore
namespace Go.Proofs.Ytfhopgficckjkaa
open Go.RowKit
attribute [local go_sem] ext_Bd ext_Bl ext_Bt toList_B add_B size_B get_Bt

/-- The cells of marks that lie in a row. -/
def mkCells (ms : List R.Mk) : List Value := ms.flatMap fun m => [.int .i64 m.1, .int .i64 m.2]
theorem mkCells_len : ∀ (ms : List R.Mk), (mkCells ms).length = ms.length * 2
  | [] => rfl
  | m :: ms => by
    have h := mkCells_len ms
    unfold mkCells at h ⊢
    rw [List.flatMap_cons, List.length_append, h]
    simp only [List.length_cons, List.length_nil]
    omega
theorem mkCells_snoc (ms : List R.Mk) (m : R.Mk) : mkCells (ms ++ [m]) = mkCells ms ++ [.int .i64 m.1, .int .i64 m.2] := by simp [mkCells]
theorem mkCells_take : ∀ (ms : List R.Mk) (j : Nat), mkCells (ms.take j) = (mkCells ms).take (j * 2)
  | [], j => by simp [mkCells]
  | m :: ms, 0 => by simp [mkCells]
  | m :: ms, j + 1 => by
    have h := mkCells_take ms j
    have e1 : mkCells (m :: ms) = .int .i64 m.1 :: .int .i64 m.2 :: mkCells ms := by simp [mkCells]
    have e2 : mkCells (m :: ms.take j) = .int .i64 m.1 :: .int .i64 m.2 :: mkCells (ms.take j) := by simp [mkCells]
    rw [List.take_succ_cons, e1, e2, h, show (j + 1) * 2 = j * 2 + 1 + 1 by omega, List.take_succ_cons, List.take_succ_cons]
theorem mkCells_get : ∀ (ms : List R.Mk) (i : Nat) (h : i < ms.length), (mkCells ms)[i * 2]? = some (.int .i64 ms[i].1) ∧ (mkCells ms)[i * 2 + 1]? = some (.int .i64 ms[i].2)
  | m :: ms, 0, _ => ⟨rfl, rfl⟩
  | m :: ms, i + 1, h => by
    have ih := mkCells_get ms i (by simpa using h)
    have e1 : mkCells (m :: ms) = .int .i64 m.1 :: .int .i64 m.2 :: mkCells ms := by simp [mkCells]
    rw [e1, show (i + 1) * 2 = i * 2 + 1 + 1 by omega]
    exact ih
theorem Try.infoMk : (Try.prog.info? 52).map (fun i => (i.zero, i.size, i.bytes)) = some (some (.agg #[.int .i64 0, .int .i64 0]), 2, 16) := by kernel_rfl
theorem own_mark {w : World} {base : Nat} {v : Value} {ms : List R.Mk} (h : w.ownsRow base 52 2 v ms.length (mkCells ms)) (i : Nat) (hi : i < ms.length) :
    ∃ g cap, v = .slice (some ⟨g, 0, none⟩) ms.length cap ∧ ms.length ≤ cap ∧ w.cell? ⟨g, i * 2, none⟩ = some (.int .i64 ms[i].1) ∧ w.cell? ⟨g, i * 2 + 1, none⟩ = some (.int .i64 ms[i].2) := by
  have c := mkCells_get ms i hi
  rcases h.2 with ⟨_, h0⟩ | ⟨g, cap, cur, rfl, _, _, hc, _⟩
  · omega
  · refine ⟨g, cap, rfl, hc, ?_, ?_⟩
    · rw [h.cellAt (i * 2) (by omega)]; exact c.1
    · rw [h.cellAt (i * 2 + 1) (by omega)]; exact c.2
theorem readsM_own {w : World} {base : Nat} {v : Value} {ms : List R.Mk} (h : w.ownsRow base 52 2 v ms.length (mkCells ms)) : ReadsM w v ms := by
  rcases h.2 with ⟨rfl, h0⟩ | ⟨g, cap, cur, rfl, _, _, hc, _⟩
  · exact ⟨none, 0, by rw [h0], by omega, fun _ => rfl, fun i hi => by omega⟩
  · refine ⟨some ⟨g, 0, none⟩, cap, rfl, hc, fun h => (by cases h), fun i hi => ?_⟩
    obtain ⟨g2, c2, hv, _, c0, c1⟩ := own_mark h i hi
    cases hv
    exact ⟨g, 0, rfl, by rw [Nat.zero_add]; exact c0, by rw [Nat.zero_add]; exact c1⟩
/-- A row of which less is looked at. -/
theorem own_less {w : World} {base : Nat} {e : TypeId} {s g n m cap : Nat} {xs : List Value} (h : w.ownsRow base e s (.slice (some ⟨g, 0, none⟩) n cap) n xs) (hm : m ≤ n) : w.ownsRow base e s (.slice (some ⟨g, 0, none⟩) m cap) m (xs.take (m * s)) := by
  obtain ⟨h1, h2⟩ := h
  rcases h2 with ⟨h2, _⟩ | ⟨g2, cap2, cur, hv, hb, hg, hn, hc, hs, ht⟩
  · cases h2
  · cases hv
    have hms : m * s ≤ n * s := Nat.mul_le_mul_right _ hm
    refine ⟨by rw [List.length_take, h1]; omega, .inr ⟨g, cap, cur, rfl, hb, hg, by omega, hc, hs, ?_⟩⟩
    rw [← ht, List.take_take, Nat.min_eq_left hms]
theorem own_drewN {w : World} {base : Nat} {e : TypeId} {s : Nat} {v : Value} {n : Nat} {xs : List Value} (h : w.ownsRow base e s v n xs) (k : Nat) : (w.drewN k).ownsRow base e s v n xs := h
theorem own_slice {w : World} {base : Nat} {e : TypeId} {s : Nat} {v : Value} {n : Nat} {xs : List Value} (h : w.ownsRow base e s v n xs) : ∃ a cap, v = .slice a n cap ∧ n ≤ cap := by
  rcases h.2 with ⟨rfl, h0⟩ | ⟨g, cap, cur, rfl, _, _, hc, _⟩
  · exact ⟨none, 0, by rw [h0], by omega⟩
  · exact ⟨_, cap, rfl, hc⟩

theorem below_keeps2 {w0 w : World} {p : Addr} {u : Value} (hb : Below w0.heap.size w0 w) (h : w0.cell? p = some u) : w.cell? p = some u := below_keeps hb p u h
def sliceLen : Value → Nat
  | .slice _ n _ => n
  | _ => 0

structure ForceAt (w : World) (ms : List R.Mk) (k : Nat) (v : Value) (wr : World) (K : List R.Mk) : Prop where
  own : wr.ownsRow w.heap.size 52 2 v K.length (mkCells K)
  good : R.Good K (ms.take k)
  len : K.length ≤ k
  bel : Below w.heap.size w wr

theorem force_next {w W w1 : World} {ms K : List R.Mk} {k j : Nat} {m : R.Mk} {u v' : Value} {o : Obj} {q : Nat} (hb : Below w.heap.size w W) (how : W.ownsRow w.heap.size 52 2 u j (mkCells (K.take j))) (hj : j ≤ K.length) (hg : R.Good K (ms.take k)) (hdr : ∀ x ∈ K.drop j, m.2 ≤ x.2)
    (hlow : ∀ x ∈ K.take j, x.2 < m.2) (ht : ms.take (k + 1) = ms.take k ++ [m]) (hKl : K.length ≤ k) (hown : w1.ownsRow w.heap.size 52 2 v' (j + 1) (mkCells (K.take j) ++ [.int .i64 m.1, .int .i64 m.2])) (hgrow : ((W.drewN q).alloc o).grownBy w1 u.ownBlock) :
    ForceAt w ms (k + 1) v' w1 (K.take j ++ [m]) := by
  have el : (K.take j ++ [m]).length = j + 1 := by rw [List.length_append, List.length_take, Nat.min_eq_left hj]; rfl
  refine ⟨by rw [el, mkCells_snoc]; exact hown, by rw [ht]; exact R.good_step hg hdr hlow, by omega, ?_⟩
  have hb2 : Below w.heap.size w (W.drewN q) := below_drewN hb q
  exact (hb2.alloc hb2.size o).grown hgrow (by have := hb.size; simp; omega) (fun b hb => (how.lt b hb).1)

set_option maxHeartbeats 4000000 in
set_option maxRecDepth 100000 in
theorem inForce_l (ms : List R.Mk) (v : Value) (w : World) (hv : ReadsM w v ms) (hl : ms.length ≤ 1000) :
    Calls Try.prog 78 #[v] w fun r w' => ∃ u K, r = .returned u ∧ w'.ownsRow w.heap.size 52 2 u K.length (mkCells K) ∧ R.Good K ms ∧ Below w.heap.size w w' := by
  obtain ⟨i0, hi, hz0, hz1, hz2⟩ := info_parts Try.infoMk
  obtain ⟨a, cap, rfl, _, _, hx⟩ := hv
  have HX := Lib.hid hx; clear hx
  go_enter Try.func78, Try.ntmps78
  go_wp2
  go_loopw [3, 8] (fun u i wr => ∃ k : Nat, i = .int .i64 k ∧ k ≤ ms.length ∧ ∃ K, ForceAt w ms k u wr K) (fun _ i _ => ms.length - (intOf i).toNat)
  case atStart => exact ⟨0, rfl, Nat.zero_le _, [], World.ownsRow_nil _ _ _ _, R.good_nil, Nat.le_refl _, Below.refl _ _⟩
  case round =>
    obtain ⟨k, rfl, hk, K, hat⟩ := hrel
    have HAT := Lib.hid hat; clear hat
    by_cases hlt : k < ms.length
    · obtain ⟨b1, o1, rfl, x0, x1⟩ := HX.out k hlt
      have hi1 : (k : Int) < (ms.length : Int) := by omega
      have y0 := below_keeps2 HAT.out.bel x0
      have y1 := below_keeps2 HAT.out.bel x1
      clear x0 x1
      have HT := Lib.hid (List.take_succ_eq_append_getElem hlt)
      generalize ms[k] = m at *
      obtain ⟨m0, m1⟩ := m
      dsimp only at y0 y1
      go_wp2
      have hown : (wr.alloc (.cells #[.int .i64 m0, .int .i64 m1] 52)).ownsRow w.heap.size 52 2 u3 K.length (mkCells K) := HAT.out.own.alloc _
      have HB : Hid (Below w.heap.size w (wr.alloc (.cells #[.int .i64 m0, .int .i64 m1] 52))) := Lib.hid (HAT.out.bel.alloc HAT.out.bel.size _)
      have z0 : (wr.alloc (.cells #[.int .i64 m0, .int .i64 m1] 52)).cell? ⟨wr.heap.size, 0, none⟩ = some (.int .i64 m0) := by rw [World.cell?_alloc_new]; rfl
      have z1 : (wr.alloc (.cells #[.int .i64 m0, .int .i64 m1] 52)).cell? ⟨wr.heap.size, 1, none⟩ = some (.int .i64 m1) := by rw [World.cell?_alloc_new]; rfl
      generalize wr.alloc (.cells #[.int .i64 m0, .int .i64 m1] 52) = W at *
      generalize wr.heap.size = gm at *
      have HOWN := Lib.hid hown; clear hown y0 y1
      have HG := Lib.hid HAT.out.good
      have hKl := HAT.out.len
      clear HAT
      go_loopw [3] (fun u wr => ∃ j : Nat, j ≤ K.length ∧ W.ownsRow w.heap.size 52 2 u j (mkCells (K.take j)) ∧ (∀ x ∈ K.drop j, m1 ≤ x.2) ∧ sQuiet W wr) (fun u _ => sliceLen u)
      case atStart => exact ⟨K.length, Nat.le_refl _, by rw [List.take_length]; exact HOWN.out, by simp, 0, rfl⟩
      case round =>
        obtain ⟨j, hj, how, hdr, nq, rfl⟩ := hrel
        have HDR := Lib.hid hdr; clear hdr
        have HOW := Lib.hid how; clear how HOWN
        by_cases h0 : j = 0
        · subst h0
          obtain ⟨ua, uc, rfl, _⟩ := own_slice HOW.out
          go_wp2
          go_quiet (fail)
          go_wp2_with (at_builtin; refine wpList_append_own _ rfl _ _ 35 rfl w.heap.size 52 i0 _ 2 16 Try.underlying35 hi hz0 hz1 hz2 rfl (by decide) _ _ _ rfl ((own_drewN HOW.out _).alloc _) ⟨W.heap.size, 0, none⟩ 1 1 [.int .i64 m0, .int .i64 m1] rfl rfl (World.news_of_block (cs := #[.int .i64 m0, .int .i64 m1]) (t := 52) (fr := (0, 0)) (heap_alloc_new (W.drewN _) _)) (by simp [Value.oneCell']) (by unfold maxLen; omega) (by omega) (by have := HB.out.size; simp; omega) ?_; intro v' w1 hown' hgrow _)
          have HN := Lib.hid (force_next (m := (m0, m1)) HB.out HOW.out hj HG.out HDR.out (by simp) HT.out hKl hown' hgrow)
          clear hown' hgrow
          go_wp2
          go_roundw
          case rel => exact ⟨k + 1, by go_num, by omega, _, HN.out⟩
          case measure => simp [intOf]; omega
        · obtain ⟨j', rfl⟩ : ∃ j', j = j' + 1 := ⟨j - 1, by omega⟩
          have hjl : j' < (K.take (j' + 1)).length := by rw [List.length_take]; omega
          have hjk : j' < K.length := by omega
          have e1 : (K.take (j' + 1)).length = j' + 1 := by rw [List.length_take]; omega
          obtain ⟨g, uc, rfl, huc, c0, c1⟩ := own_mark (by rw [e1]; exact HOW.out) j' hjl
          rw [show (K.take (j' + 1))[j'] = K[j'] by simp] at c0 c1
          rw [e1] at *
          clear hjl e1
          have hji : (j' : Int) < ((j' + 1 : Nat) : Int) := by omega
          by_cases hge : m1 ≤ K[j'].2
          · have HN : Hid (W.ownsRow w.heap.size 52 2 (.slice (some ⟨g, 0, none⟩) j' uc) j' (mkCells (K.take j'))) := Lib.hid (by
              have := own_less HOW.out (m := j') (by omega)
              rwa [mkCells_take, List.take_take, Nat.min_eq_left (by omega), ← mkCells_take] at this)
            have HDN := Lib.hid (R.drop_high hjk hge HDR.out)
            generalize K[j'].2 = z at *
            go_wp2
            go_quiet (fail)
            go_wp2
            go_roundw
            case rel => exact ⟨j', by omega, HN.out, HDN.out, _, rfl⟩
            case measure => simp [sliceLen]
          · have HLOW := Lib.hid (R.take_low HG.out.1 hjk (z := m1) (by omega))
            generalize K[j'].2 = z at *
            go_wp2
            go_quiet (fail)
            go_wp2_with (at_builtin; refine wpList_append_own _ rfl _ _ 35 rfl w.heap.size 52 i0 _ 2 16 Try.underlying35 hi hz0 hz1 hz2 rfl (by decide) _ _ _ rfl ((own_drewN HOW.out _).alloc _) ⟨W.heap.size, 0, none⟩ 1 1 [.int .i64 m0, .int .i64 m1] rfl rfl (World.news_of_block (cs := #[.int .i64 m0, .int .i64 m1]) (t := 52) (fr := (0, 0)) (heap_alloc_new (W.drewN _) _)) (by simp [Value.oneCell']) (by unfold maxLen; omega) (by omega) (by have := HB.out.size; simp; omega) ?_; intro v' w1 hown' hgrow _)
            have HN := Lib.hid (force_next (m := (m0, m1)) HB.out HOW.out hj HG.out HDR.out HLOW.out HT.out hKl hown' hgrow)
            clear hown' hgrow
            go_wp2
            go_roundw
            case rel => exact ⟨k + 1, by go_num, by omega, _, HN.out⟩
            case measure => simp [intOf]; omega
    · have HG : Hid (R.Good K ms) := Lib.hid (by have := HAT.out.good; rwa [List.take_of_length_le (by omega)] at this)
      have HR := Lib.hid HAT.out.own
      have HBE := Lib.hid HAT.out.bel
      clear HAT
      go_wp2
      go_ret
      exact ⟨_, K, rfl, HR.out, HG.out, HBE.out⟩
end Go.Proofs.Ytfhopgficckjkaa
