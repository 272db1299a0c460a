/-
  Own texts, joined: EventProg EventRef
-/
import Derived.Test.YtmfhipjceeijmaaGreatDoorBun12
import Derived.Test.YtmfhipjceeijmaaGreatDoorBun16
import Derived.Test.YtmfhipjceeijmaaGreatDoorBun9
import Derived.Deep.RegionHeld3

/-
  Walks of package event: Right, Fits, Same, Put.
-/
namespace Go.Proofs.YtmfhipjceeijmaaGreatDoor
open Go.RowKit
attribute [local go_sem] ext_Bd ext_Bl ext_Bt toList_B add_B size_B get_Bt

/-- How large what is handed in may be. -/
def E.Small (b : E.Bat) : Prop := b.stream.length ≤ 9223372036854775807 ∧ (b.events.length ≤ 30 → ∀ e ∈ b.events, e.1.length ≤ 9223372036854775807 ∧ e.2.length ≤ 9223372036854775807)
theorem E.Small.of {b : E.Bat} (h1 : b.stream.length ≤ 9223372036854775807) (h2 : ∀ e ∈ b.events, e.1.length ≤ 9223372036854775807 ∧ e.2.length ≤ 9223372036854775807) : E.Small b := ⟨h1, fun _ => h2⟩

set_option maxHeartbeats 1000000 in
set_option maxRecDepth 100000 in
theorem Right_l (e : E.Ev) (w : World) (h1 : e.1.length ≤ 9223372036854775807) :
    Calls Tryz.prog 199 #[evV e] w fun r w' => r = .returned (.bool (E.right e)) ∧ Below w.heap.size w w' := by
  have HR : Hid (E.right e = (nameL e.1 && decide (e.2.length ≤ 200))) := Lib.hid rfl
  obtain ⟨r, HQ⟩ : ∃ r, Hid (E.right e = r) := ⟨_, Lib.hid rfl⟩
  rw [HQ.out]
  go_enter Tryz.func199, Tryz.ntmps199
  go_wp2_with fail
  refine (Name_l e.1 _ (by omega)).mono ?_
  rintro x w1 ⟨rfl, hb1⟩
  have hc := box_at hb1 1
  simp at hc
  have hb := below_box hb1
  clear hb1
  cases hn : nameL e.1
  · have HE := Lib.hid (show r = false by rw [← HQ.out, HR.out, hn]; rfl)
    go_wp2
    go_ret
    rw [HE.out]
    exact ⟨rfl, hb⟩
  · by_cases hd : e.2.length ≤ 200
    · have HE := Lib.hid (show r = true by rw [← HQ.out, HR.out, hn, decide_eq_true hd]; rfl)
      have hdi : (e.2.length : Int) ≤ 200 := by omega
      go_wp2
      go_ret
      rw [HE.out]
      exact ⟨rfl, hb⟩
    · have HE := Lib.hid (show r = false by rw [← HQ.out, HR.out, hn, decide_eq_false hd]; rfl)
      have HDI : Hid (decide ((e.2.length : Int) ≤ 200) = false) := Lib.hid (decide_eq_false (by omega))
      clear hd
      go_wp2
      go_ret
      rw [HE.out]
      exact ⟨ret_bool HDI.out, hb⟩
theorem Right_at (e : E.Ev) (r : Bool) (w : World) (h1 : e.1.length ≤ 9223372036854775807) (_h2 : e.2.length ≤ 9223372036854775807) (H : Hid (E.right e = r)) :
    Calls Tryz.prog 199 #[evV e] w fun x w' => x = .returned (.bool r) ∧ Below w.heap.size w w' := by
  rw [← H.out]; exact Right_l e w h1

set_option maxRecDepth 100000 in
theorem between_at (n lo hi : Int) (r : Bool) (w : World) (H : Hid (decide (lo ≤ n ∧ n ≤ hi) = r)) :
    Calls Tryz.prog 198 #[.int .i64 n, .int .i64 lo, .int .i64 hi] w fun x w' => x = .returned (.bool r) ∧ w = w' := by
  by_cases h1 : lo ≤ n
  · by_cases h2 : n ≤ hi
    · have HE := Lib.hid (show r = true by rw [← H.out]; exact decide_eq_true ⟨h1, h2⟩)
      go_enter Tryz.func198, Tryz.ntmps198
      go_wp2
      go_ret
      rw [HE.out]
      exact ⟨rfl, rfl⟩
    · have HE := Lib.hid (show r = false by rw [← H.out]; exact decide_eq_false fun h => h2 h.2)
      have h3 : decide (n ≤ hi) = false := decide_eq_false h2
      clear h2
      go_enter Tryz.func198, Tryz.ntmps198
      go_wp2
      go_ret
      rw [HE.out]
      exact ⟨rfl, rfl⟩
  · have HE := Lib.hid (show r = false by rw [← H.out]; exact decide_eq_false fun h => h1 h.1)
    have h3 : decide (lo ≤ n) = false := decide_eq_false h1
    clear h1
    go_enter Tryz.func198, Tryz.ntmps198
    go_wp2
    go_ret
    rw [HE.out]
    exact ⟨rfl, rfl⟩

def hd4 (b : E.Bat) : Bool := nameL b.stream && (decide (-1 ≤ b.expect ∧ b.expect ≤ 274877906944) && (decide (1 ≤ b.session ∧ b.session ≤ 274877906944) && decide (1 ≤ b.seq ∧ b.seq ≤ 274877906944)))
theorem hd4_iff {b : E.Bat} : E.headOk b ↔ hd4 b = true ∧ 0 < b.events.length := by
  unfold hd4 E.headOk E.large
  simp only [Bool.and_eq_true, decide_eq_true_eq]
  constructor
  · rintro ⟨h1, h2, h3, h4, h5, h6, h7, h8⟩; exact ⟨⟨h1, ⟨h2, h3⟩, ⟨h4, h5⟩, h6, h7⟩, h8⟩
  · rintro ⟨⟨h1, ⟨h2, h3⟩, ⟨h4, h5⟩, h6, h7⟩, h8⟩; exact ⟨h1, h2, h3, h4, h5, h6, h7, h8⟩

set_option maxHeartbeats 1000000 in
set_option maxRecDepth 100000 in
theorem headFits_at (b : E.Bat) (v : Value) (r : Bool) (w : World) (h1 : b.stream.length ≤ 9223372036854775807) (H : Hid (hd4 b = r)) :
    Calls Tryz.prog 175 #[batV b v] w fun x w' => x = .returned (.bool r) ∧ Below w.heap.size w w' := by
  obtain ⟨n, HN⟩ : ∃ n, Hid (nameL b.stream = n) := ⟨_, Lib.hid rfl⟩
  obtain ⟨r1, H1⟩ : ∃ n, Hid (decide (-1 ≤ b.expect ∧ b.expect ≤ 274877906944) = n) := ⟨_, Lib.hid rfl⟩
  obtain ⟨r2, H2⟩ : ∃ n, Hid (decide (1 ≤ b.session ∧ b.session ≤ 274877906944) = n) := ⟨_, Lib.hid rfl⟩
  obtain ⟨r3, H3⟩ : ∃ n, Hid (decide (1 ≤ b.seq ∧ b.seq ≤ 274877906944) = n) := ⟨_, Lib.hid rfl⟩
  have HR : Hid (r = (n && (r1 && (r2 && r3)))) := Lib.hid (by rw [← H.out, ← HN.out, ← H1.out, ← H2.out, ← H3.out]; rfl)
  clear H
  go_enter Tryz.func175, Tryz.ntmps175
  go_wp2_with fail
  refine (Name_l b.stream _ (by omega)).mono ?_
  rintro x w1 ⟨rfl, hb1⟩
  rw [HN.out]
  have c1 := box_at hb1 1
  have c2 := box_at hb1 2
  have c3 := box_at hb1 3
  simp at c1 c2 c3
  have hb := below_box hb1
  clear hb1
  cases n
  · go_wp2
    go_ret
    rw [HR.out]
    exact ⟨rfl, hb⟩
  go_wp2_with fail
  refine (between_at b.expect (-1) 274877906944 r1 _ H1).mono ?_
  rintro x w2 ⟨rfl, rfl⟩
  cases r1
  · go_wp2
    go_ret
    rw [HR.out]
    exact ⟨rfl, hb⟩
  go_wp2_with fail
  refine (between_at b.session 1 274877906944 r2 _ H2).mono ?_
  rintro x w2 ⟨rfl, rfl⟩
  cases r2
  · go_wp2
    go_ret
    rw [HR.out]
    exact ⟨rfl, hb⟩
  go_wp2_with fail
  refine (between_at b.seq 1 274877906944 r3 _ H3).mono ?_
  rintro x w2 ⟨rfl, rfl⟩
  go_wp2
  go_ret
  rw [HR.out]
  exact ⟨rfl, hb⟩

theorem all_evs5 {l : List E.Ev} {k : Nat} (h : k < l.length) (ha : (l.take k).all E.right = true) (hn : E.right l[k] = true) : (l.take (k + 1)).all E.right = true := by
  rw [List.take_succ_eq_append_getElem h, List.all_append, ha]; simp [hn]
theorem stop_evs5 {l : List E.Ev} {k : Nat} (h : k < l.length) (hn : E.right l[k] = false) : l.all E.right = false := by
  rw [List.all_eq_false]
  exact ⟨l[k], List.getElem_mem h, by simp [hn]⟩

set_option maxHeartbeats 2000000 in
set_option maxRecDepth 100000 in
theorem allRight_at (evs : List E.Ev) (v : Value) (r : Bool) (w : World) (hv : ReadsE w v evs) (h2 : evs.length ≤ 1000) (h3 : ∀ e ∈ evs, e.1.length ≤ 9223372036854775807) (H : Hid (evs.all E.right = r)) :
    Calls Tryz.prog 176 #[v] w fun x w' => x = .returned (.bool r) ∧ Below w.heap.size w w' := by
  obtain ⟨a, cap, rfl, hcap, _, hx⟩ := hv
  have HX := Lib.hid hx; clear hx hcap
  have H3 := Lib.hid h3; clear h3
  go_enter Tryz.func176, Tryz.ntmps176
  go_wp2
  go_loopw [7] (fun i wr => ∃ k : Nat, i = .int .i64 k ∧ k ≤ evs.length ∧ (evs.take k).all E.right = true ∧ Below w.heap.size w wr) (fun i _ => evs.length - (intOf i).toNat)
  case atStart => exact ⟨0, rfl, Nat.zero_le _, by simp, Below.refl _ _⟩
  case round =>
    obtain ⟨k, rfl, hk, hall, hbr⟩ := hrel
    have HALL := Lib.hid hall; clear hall
    by_cases hlt : k < evs.length
    · obtain ⟨b1, o1, rfl, e0, e1⟩ := HX.out k hlt
      have hk1 : (k : Int) < (evs.length : Int) := by omega
      have x0 : wr.cell? ⟨b1, o1 + k * 2, none⟩ = some (.string (B evs[k].1)) := by rw [hbr.cell (World.block_lt_of_cell? w _ e0)]; exact e0
      have x1 : wr.cell? ⟨b1, o1 + k * 2 + 1, none⟩ = some (.string (B evs[k].2)) := by rw [hbr.cell (World.block_lt_of_cell? w _ e1)]; exact e1
      have hel := H3.out _ (List.getElem_mem hlt)
      obtain ⟨q, HQ⟩ : ∃ q, Hid (E.right evs[k] = q) := ⟨_, Lib.hid rfl⟩
      have HS : Hid (q = false → r = false) := Lib.hid fun h => by rw [← H.out]; exact stop_evs5 hlt (by rw [HQ.out, h])
      have HA : Hid (q = true → (evs.take (k + 1)).all E.right = true) := Lib.hid fun h => all_evs5 hlt HALL.out (by rw [HQ.out, h])
      clear e0 e1
      generalize evs[k] = e at *
      go_wp2_with fail
      refine (Right_l e _ hel).mono ?_
      rintro x w2 ⟨rfl, hb2⟩
      rw [HQ.out]
      have hb3 := hbr.trans ((below_box hb2).mono hbr.size)
      clear hb2
      cases q
      · go_wp2
        go_ret
        rw [HS.out (by first | rfl | trivial)]
        exact ⟨rfl, hb3⟩
      · go_wp2
        go_roundw
        case rel => exact ⟨k + 1, by go_num, by omega, HA.out (by first | rfl | trivial), hb3⟩
        case measure => simp [intOf]; omega
    · have HE := Lib.hid (show r = true by rw [← H.out, ← HALL.out, List.take_of_length_le (by omega)])
      go_wp2
      go_ret
      rw [HE.out]
      exact ⟨rfl, hbr⟩

set_option maxHeartbeats 2000000 in
set_option maxRecDepth 100000 in
theorem Fits_at (b : E.Bat) (v : Value) (r : Nat) (w : World) (hv : ReadsE w v b.events) (hs : E.Small b) (H : Hid (E.fits b = r)) :
    Calls Tryz.prog 145 #[batV b v] w fun x w' => x = .returned (.int .i64 r) ∧ Below w.heap.size w w' := by
  have HV := Lib.hid hv
  obtain ⟨a, cap, rfl, hcap, _, _⟩ := hv
  have HSM := Lib.hid hs; clear hs hcap
  obtain ⟨hd, HD⟩ : ∃ hd, Hid (hd4 b = hd) := ⟨_, Lib.hid rfl⟩
  obtain ⟨al, HA⟩ : ∃ al, Hid (b.events.all E.right = al) := ⟨_, Lib.hid rfl⟩
  go_enter Tryz.func145, Tryz.ntmps145
  go_wp2_with fail
  refine (headFits_at b _ hd _ HSM.out.1 HD).mono ?_
  rintro x w1 ⟨rfl, hb1⟩
  have c4 := box_at hb1 4
  simp at c4
  have hb := below_box hb1
  clear hb1
  cases hd
  · have HE := Lib.hid (show r = 1 by rw [← H.out]; exact E.fits_head fun h => by have := (hd4_iff.1 h).1; rw [HD.out] at this; cases this)
    go_wp2
    go_ret
    rw [HE.out]
    exact ⟨rfl, hb⟩
  by_cases h0 : b.events.length = 0
  · have HE := Lib.hid (show r = 1 by rw [← H.out]; exact E.fits_head fun h => by have := (hd4_iff.1 h).2; omega)
    have h0i : ((b.events.length : Int) == 0) = true := beq_iff_eq.2 (by omega)
    clear h0
    go_wp2
    go_ret
    rw [HE.out]
    exact ⟨rfl, hb⟩
  have HH := Lib.hid (hd4_iff.2 ⟨HD.out, by omega⟩)
  have h0i : ((b.events.length : Int) == 0) = false := beq_eq_false_iff_ne.2 (by omega)
  by_cases h8 : 8 < b.events.length
  · have HE := Lib.hid (show r = 4 by rw [← H.out]; exact E.fits_long HH.out h8)
    have h8i : (8 : Int) < b.events.length := by omega
    go_wp2
    go_ret
    rw [HE.out]
    exact ⟨rfl, hb⟩
  have HE : Hid (r = if al = true then 0 else 1) := Lib.hid (by
    rw [← H.out]
    cases al
    · exact E.fits_bad HH.out h8 HA.out
    · exact E.fits_ok HH.out h8 HA.out)
  have h8i : ¬ (8 : Int) < b.events.length := by omega
  go_wp2_with fail
  refine (allRight_at b.events _ al _ (readsE_below HV.out hb) (by omega) (fun e he => (HSM.out.2 (by omega) e he).1) HA).mono ?_
  rintro x w2 ⟨rfl, hb2⟩
  have hb3 := hb.trans (hb2.mono hb.size)
  clear hb2
  cases al
  · go_wp2
    go_ret
    rw [HE.out]
    exact ⟨rfl, hb3⟩
  · go_wp2
    go_ret
    rw [HE.out]
    exact ⟨rfl, hb3⟩
end Go.Proofs.YtmfhipjceeijmaaGreatDoor

/-
  Walks of the document's answer to layer 5 (package bucketlineref5): Right, Fits, bytes, Put, PutBatch.
-/
namespace Go.Proofs.YtmfhipjceeijmaaGreatDoor
open Go.RowKit
attribute [local go_sem] ext_Bd ext_Bl ext_Bt toList_B add_B size_B get_Bt

set_option maxHeartbeats 1000000 in
set_option maxRecDepth 100000 in
theorem refRight_l (e : E.Ev) (w : World) (h1 : e.1.length ≤ 1000000) :
    Calls Tryz.prog 138 #[evV e] w fun r w' => r = .returned (.bool (E.right e)) ∧ Below w.heap.size w w' := by
  have HR : Hid (E.right e = (nameL e.1 && decide (e.2.length ≤ 200))) := Lib.hid rfl
  obtain ⟨r, HQ⟩ : ∃ r, Hid (E.right e = r) := ⟨_, Lib.hid rfl⟩
  rw [HQ.out]
  go_enter Tryz.func138, Tryz.ntmps138
  go_wp2_with fail
  refine (refName_l e.1 _ h1).mono ?_
  rintro x w1 ⟨rfl, hb1⟩
  have hc := box_at hb1 1
  simp at hc
  have hb := below_box hb1
  clear hb1
  cases hn : nameL e.1
  · have HE := Lib.hid (show r = false by rw [← HQ.out, HR.out, hn]; rfl)
    go_wp2
    go_ret
    rw [HE.out]
    exact ⟨rfl, hb⟩
  · by_cases hd : e.2.length ≤ 200
    · have HE := Lib.hid (show r = true by rw [← HQ.out, HR.out, hn, decide_eq_true hd]; rfl)
      have hdi : (e.2.length : Int) ≤ 200 := by omega
      go_wp2
      go_ret
      rw [HE.out]
      exact ⟨rfl, hb⟩
    · have HE := Lib.hid (show r = false by rw [← HQ.out, HR.out, hn, decide_eq_false hd]; rfl)
      have HDI : Hid (decide ((e.2.length : Int) ≤ 200) = false) := Lib.hid (decide_eq_false (by omega))
      clear hd
      go_wp2
      go_ret
      rw [HE.out]
      exact ⟨ret_bool HDI.out, hb⟩
theorem refRight_at (e : E.Ev) (r : Bool) (w : World) (h1 : e.1.length ≤ 1000000) (H : Hid (E.right e = r)) :
    Calls Tryz.prog 138 #[evV e] w fun x w' => x = .returned (.bool r) ∧ Below w.heap.size w w' := by
  rw [← H.out]; exact refRight_l e w h1

theorem head_cases (b : E.Bat) : E.headOk b ∨ (¬ E.headOk b ∧ (nameL b.stream = false ∨ (nameL b.stream = true ∧ (b.expect < -1 ∨ (-1 ≤ b.expect ∧ (274877906944 < b.expect ∨ (b.expect ≤ 274877906944 ∧ (b.session < 1 ∨ (1 ≤ b.session ∧ (274877906944 < b.session ∨ (b.session ≤ 274877906944 ∧
    (b.seq < 1 ∨ (1 ≤ b.seq ∧ (274877906944 < b.seq ∨ (b.seq ≤ 274877906944 ∧ b.events.length = 0))))))))))))))) := by
  by_cases h : E.headOk b
  · exact .inl h
  · refine .inr ⟨h, ?_⟩
    cases hn : nameL b.stream
    · exact .inl rfl
    · refine .inr ⟨rfl, ?_⟩
      unfold E.headOk E.large at h
      rw [hn] at h
      simp only [true_and] at h
      omega
theorem all_evs {l : List E.Ev} {k : Nat} (h : k < l.length) (ha : (l.take k).all E.right = true) (hn : E.right l[k] = true) : (l.take (k + 1)).all E.right = true := by
  rw [List.take_succ_eq_append_getElem h, List.all_append, ha]; simp [hn]
theorem stop_evs {l : List E.Ev} {k : Nat} (h : k < l.length) (hn : E.right l[k] = false) : l.all E.right = false := by
  rw [List.all_eq_false]
  exact ⟨l[k], List.getElem_mem h, by simp [hn]⟩

set_option maxHeartbeats 2000000 in
set_option maxRecDepth 100000 in
theorem refFits_bad (b : E.Bat) (v : Value) (w : World) (hv : ReadsE w v b.events) (h1 : b.stream.length ≤ 1000000) (hh : ¬ E.headOk b) :
    Calls Tryz.prog 112 #[batV b v] w fun r w' => r = .returned (.int .i64 1) ∧ Below w.heap.size w w' := by
  obtain ⟨a, cap, rfl, hcap, _, _⟩ := hv
  rcases head_cases b with h | ⟨_, h⟩
  · exact absurd h hh
  clear hh hcap
  rcases h with h | ⟨hn, h⟩
  · go_enter Tryz.func112, Tryz.ntmps112
    go_wp2_with fail
    refine (refName_l b.stream _ h1).mono ?_
    rintro x w1 ⟨rfl, hb1⟩
    rw [h]
    have hb := below_box hb1
    clear hb1
    go_wp2
    go_ret
    exact ⟨rfl, hb⟩
  rcases h with h | ⟨g1, h | ⟨g2, h | ⟨g3, h | ⟨g4, h | ⟨g5, h | ⟨g6, h⟩⟩⟩⟩⟩⟩
  all_goals
    go_enter Tryz.func112, Tryz.ntmps112
    go_wp2_with fail
    refine (refName_l b.stream _ h1).mono ?_
    rintro x w1 ⟨rfl, hb1⟩
    rw [hn]
    have c1 := box_at hb1 1
    have c2 := box_at hb1 2
    have c3 := box_at hb1 3
    have c4 := box_at hb1 4
    simp at c1 c2 c3 c4
    have hb := below_box hb1
    clear hb1
    go_wp2
    go_ret
    exact ⟨rfl, hb⟩

set_option maxHeartbeats 2000000 in
set_option maxRecDepth 100000 in
theorem refFits_head (b : E.Bat) (v : Value) (w : World) (hv : ReadsE w v b.events) (h1 : b.stream.length ≤ 1000000) (hh : E.headOk b) (h3 : b.events.length ≤ 8 → ∀ e ∈ b.events, e.1.length ≤ 1000000) :
    Calls Tryz.prog 112 #[batV b v] w fun r w' => r = .returned (.int .i64 (E.fits b)) ∧ Below w.heap.size w w' := by
  obtain ⟨a, cap, rfl, hcap, _, hx⟩ := hv
  have HX := Lib.hid hx; clear hx hcap
  have H3 := Lib.hid h3; clear h3
  have HH := Lib.hid hh
  obtain ⟨hn, g1, g2, g3, g4, g5, g6, g7⟩ := hh
  unfold E.large at g2 g4 g6
  obtain ⟨r, HQ⟩ : ∃ r, Hid (E.fits b = r) := ⟨_, Lib.hid rfl⟩
  rw [HQ.out]
  have hz : ((b.events.length : Int) == 0) = false := beq_eq_false_iff_ne.2 (by omega)
  go_enter Tryz.func112, Tryz.ntmps112
  go_wp2_with fail
  refine (refName_l b.stream _ h1).mono ?_
  rintro x w1 ⟨rfl, hb1⟩
  rw [hn]
  have c1 := box_at hb1 1
  have c2 := box_at hb1 2
  have c3 := box_at hb1 3
  have c4 := box_at hb1 4
  simp at c1 c2 c3 c4
  have hb := below_box hb1
  have hlt1 : w.heap.size < w1.heap.size := by have := hb1.size; simp at this; omega
  clear hb1
  by_cases h8 : 8 < b.events.length
  · have HE := Lib.hid (show r = 4 by rw [← HQ.out]; exact E.fits_long HH.out h8)
    go_wp2
    go_ret
    rw [HE.out]
    exact ⟨rfl, hb⟩
  have H3 := Lib.hid (H3.out (by omega))
  have HQ2 : Hid (∀ c, b.events.all E.right = c → r = if c = true then 0 else 1) := Lib.hid fun c hc => by
    rw [← HQ.out]
    cases c
    · exact E.fits_bad HH.out h8 hc
    · exact E.fits_ok HH.out h8 hc
  generalize b.events = evs at *
  go_wp2
  go_loopw [4] (fun i wr => ∃ k : Nat, i = .int .i64 k ∧ k ≤ evs.length ∧ (evs.take k).all E.right = true ∧ Below w1.heap.size w1 wr) (fun i _ => evs.length - (intOf i).toNat)
  case atStart => exact ⟨0, rfl, Nat.zero_le _, by simp, Below.refl _ _⟩
  case round =>
    obtain ⟨k, rfl, hk, hall, hbr⟩ := hrel
    have HALL := Lib.hid hall; clear hall
    have d4 : wr.cell? ⟨w.heap.size, 4, none⟩ = some (.slice a evs.length cap) := by rw [hbr.cell hlt1]; exact c4
    by_cases hlt : k < evs.length
    · obtain ⟨b1, o1, rfl, e0, e1⟩ := HX.out k hlt
      have hk1 : (k : Int) < (evs.length : Int) := by omega
      have hbb := hb.trans (hbr.mono hb.size)
      have x0 : wr.cell? ⟨b1, o1 + k * 2, none⟩ = some (.string (B evs[k].1)) := by rw [hbb.cell (World.block_lt_of_cell? w _ e0)]; exact e0
      have x1 : wr.cell? ⟨b1, o1 + k * 2 + 1, none⟩ = some (.string (B evs[k].2)) := by rw [hbb.cell (World.block_lt_of_cell? w _ e1)]; exact e1
      have hel := H3.out _ (List.getElem_mem hlt)
      cases hr : E.right evs[k]
      · have HE := Lib.hid (show r = 1 from HQ2.out false (stop_evs hlt hr))
        have HR := Lib.hid hr; clear hr e0 e1
        generalize evs[k] = e at *
        go_wp2_with fail
        refine (chain (refRight_at e false wr hel HR) hbb).mono ?_
        rintro x w2 ⟨rfl, hb2⟩
        go_wp2
        go_ret
        rw [HE.out]
        exact ⟨rfl, hb2⟩
      · have HA := Lib.hid (all_evs hlt HALL.out hr)
        have HR := Lib.hid hr; clear hr e0 e1
        generalize evs[k] = e at *
        go_wp2_with fail
        refine (refRight_at e true wr hel HR).mono ?_
        rintro x w2 ⟨rfl, hb2⟩
        have hbr2 := hbr.trans (hb2.mono hbr.size)
        clear hb2
        go_wp2
        go_roundw
        case rel => exact ⟨k + 1, by go_num, by omega, HA.out, hbr2⟩
        case measure => simp [intOf]; omega
    · have HE := Lib.hid (show r = 0 from HQ2.out true (by rw [← HALL.out, List.take_of_length_le (by omega)]))
      have hbb := hb.trans (hbr.mono hb.size)
      go_wp2
      go_ret
      rw [HE.out]
      exact ⟨rfl, hbb⟩
theorem refFits_l (b : E.Bat) (v : Value) (w : World) (hv : ReadsE w v b.events) (h1 : b.stream.length ≤ 1000000) (h3 : b.events.length ≤ 8 → ∀ e ∈ b.events, e.1.length ≤ 1000000) :
    Calls Tryz.prog 112 #[batV b v] w fun r w' => r = .returned (.int .i64 (E.fits b)) ∧ Below w.heap.size w w' := by
  by_cases hh : E.headOk b
  · exact refFits_head b v w hv h1 hh h3
  · rw [E.fits_head hh]; exact refFits_bad b v w hv h1 hh
/-- How large what is handed in may be. -/
def E.Tiny (b : E.Bat) : Prop := b.stream.length ≤ 1000000 ∧ (b.events.length ≤ 8 → ∀ e ∈ b.events, e.1.length ≤ 1000000)
theorem refFits_at (b : E.Bat) (v : Value) (r : Nat) (w : World) (hv : ReadsE w v b.events) (h1 : b.stream.length ≤ 1000000) (h3 : b.events.length ≤ 8 → ∀ e ∈ b.events, e.1.length ≤ 1000000) (H : Hid (E.fits b = r)) :
    Calls Tryz.prog 112 #[batV b v] w fun x w' => x = .returned (.int .i64 r) ∧ Below w.heap.size w w' := by
  rw [← H.out]; exact refFits_l b v w hv h1 h3
end Go.Proofs.YtmfhipjceeijmaaGreatDoor
