/-
  The landed disk's Append.
-/
import Derived.Test.YtmfhipjceeijmaaDiskH
namespace Go.Proofs.Ytmfhipjceeijmaa.D
open Go.RowKit Go.Maps
attribute [local go_sem] ext_Bd ext_Bl ext_Bt toList_B add_B size_B get_Bt

section
variable {bs : Nat} {w : World} {p m room : Nat} {l : List F} {loc : Tx → Value}
/-- What a look-up tells, of a file or of none: its bytes' slice, whether it is there. -/
structure Lk (bs : Nat) (w : World) (p m : Nat) (l : List F) (loc : Tx → Value) (n : Tx) (d : Tx) (syn : Nat) (a : Option Addr) (c : Nat) (is : Bool) : Prop where
  run : (Instr.lookup 57 (.map (some m)) (.string (B n)) true).run Try.prog w = .ok (.tuple #[.agg #[.slice a d.length c, .int .i64 (syn : Int)], .bool is]) w
  row : w.ownsRow bs 5 1 (.slice a d.length c) d.length (Lib.byteCells d)
  apart : ∀ g ∈ l, g.name ≠ n → ∀ k, (Value.slice a d.length c).ownBlock = some k → (loc g.name).ownBlock ≠ some k
  blk : ∀ k, (Value.slice a d.length c).ownBlock = some k → SA p m l loc k
  is : (find n l).isSome = is
  dat : ∀ s : Tx, (match find n l with | some f => (⟨n, f.data ++ s, f.syn⟩ : F) | none => ⟨n, s, 0⟩) = ⟨n, d ++ s, syn⟩
theorem DA.lk (h : DA bs w p m room l loc) (n : Tx) (hn : n.length ≤ 9223372036854775807) : ∃ d syn a c is, Lk bs w p m l loc n d syn a c is ∧ d.length = lenAt (find n l) := by
  have hlk := h.look n hn
  cases hf : find n l with
  | none =>
    rw [hf] at hlk
    exact ⟨[], 0, none, 0, false, ⟨hlk, World.ownsRow_nil w _ _ _, fun _ _ _ k hk => (by cases hk), fun k hk => (by cases hk), by rw [hf]; rfl, fun s => by rw [hf]; rfl⟩, rfl⟩
  | some f =>
    obtain ⟨a, c, hfd⟩ := h.found hf
    have e := hfd.look
    rw [hf] at e
    rw [hf, e] at hlk
    exact ⟨f.data, f.syn, a, c, true, ⟨hlk, hfd.row, hfd.apart, hfd.blk, by rw [hf]; rfl, fun s => by rw [hf]⟩, rfl⟩
theorem R3_drew {p room : Nat} {W a : World} (h : a.cell? ⟨p, 0, none⟩ = some (.int .i64 (room : Int)) ∧ Below W.heap.size W a) : a.drew.cell? ⟨p, 0, none⟩ = some (.int .i64 (room : Int)) ∧ Below W.heap.size W a.drew := ⟨h.1, h.2.drew⟩
theorem R3_call {p room : Nat} {W a b : World} (h : a.cell? ⟨p, 0, none⟩ = some (.int .i64 (room : Int)) ∧ Below W.heap.size W a) (hb : Below a.heap.size a b) : b.cell? ⟨p, 0, none⟩ = some (.int .i64 (room : Int)) ∧ Below W.heap.size W b :=
  ⟨keeps hb _ _ h.1, h.2.trans (hb.mono h.2.size)⟩
variable (n s : Tx)
set_option maxHeartbeats 4000000 in
set_option maxRecDepth 100000 in
theorem app_name (h : DA bs w p m room l loc) (hn : n.length ≤ 9223372036854775807) (hq : nameL n = false) :
    Calls Try.prog 10 #[dP p, .string (B n), .string (B s)] w fun x w' => x = .returned (.int .i64 1) ∧ Mv bs w p m room l loc l w' := by
  obtain ⟨d, syn, a, c, is, hlk, -⟩ := h.lk n hn
  have hrun := hlk.run
  have c1 := h.cells.2
  have HB := Lib.hid ((Below.refl w.heap.size w).alloc (Nat.le_refl _) (.cells #[.slice a d.length c, .int .i64 (syn : Int)] 55))
  have HD := Lib.hid h
  have HQ := Lib.hid hq
  clear h hlk hq
  go_enter Try.func10, Try.ntmps10
  go_wp2_with fail
  refine (Name_l n _ (by omega)).mono ?_
  rintro x w3 ⟨rfl, hb3⟩
  rw [HQ.out]
  have HM := Lib.hid (Mv.same HD.out (HB.out.trans (hb3.mono HB.out.size)))
  clear hb3
  go_wp2
  go_ret
  exact ⟨rfl, HM.out⟩
set_option maxHeartbeats 4000000 in
set_option maxRecDepth 100000 in
theorem app_long (h : DA bs w p m room l loc) (hn : n.length ≤ 9223372036854775807) (hq : nameL n = true) (hf : find n l = none) (h40 : 40 ≤ l.length) :
    Calls Try.prog 10 #[dP p, .string (B n), .string (B s)] w fun x w' => x = .returned (.int .i64 4) ∧ Mv bs w p m room l loc l w' := by
  obtain ⟨d, syn, a, c, is, hlk, -⟩ := h.lk n hn
  have hrun := hlk.run
  have hi := hlk.is
  rw [hf] at hi
  have hi2 : is = false := hi.symm
  subst hi2
  have c1 := h.cells.2
  have h40i : ((40 : Int) ≤ (l.length : Int)) := by omega
  have HB := Lib.hid ((Below.refl w.heap.size w).alloc (Nat.le_refl _) (.cells #[.slice a d.length c, .int .i64 (syn : Int)] 55))
  have HD := Lib.hid h
  have HQ := Lib.hid hq
  clear h hlk hq hi
  go_enter Try.func10, Try.ntmps10
  go_wp2_with fail
  refine (Name_l n _ (by omega)).mono ?_
  rintro x w3 ⟨rfl, hb3⟩
  rw [HQ.out]
  have HB3 := Lib.hid (HB.out.trans (hb3.mono HB.out.size))
  have HD3 := Lib.hid (HD.out.below HB3.out)
  have c3 := HD3.out.cells.2
  have kl := HD3.out.len
  have HM := Lib.hid (Mv.same HD.out HB3.out)
  clear hb3 c1
  go_wp2
  go_ret
  exact ⟨rfl, HM.out⟩
set_option maxHeartbeats 4000000 in
set_option maxRecDepth 100000 in
theorem app_full (h : DA bs w p m room l loc) (hs : Sorted l) (hl : l.length ≤ 1000) (hro : room ≤ 2000000000) (hn : n.length ≤ 9223372036854775807) (hsl : s.length ≤ 2000000000) (hq : nameL n = true) (u : Nat) (HU : Hid (used l = u)) (hu : u ≤ 2000000000) (is : Bool) (HI : Hid ((find n l).isSome = is)) (h40 : is = false → l.length < 40) (hfu : room < u + s.length) :
    Calls Try.prog 10 #[dP p, .string (B n), .string (B s)] w fun x w' => x = .returned (.int .i64 8) ∧ Mv bs w p m room l loc l w' := by
  obtain ⟨d, syn, a, c, is2, hlk, hlen⟩ := h.lk n hn
  obtain rfl : is2 = is := hlk.is.symm.trans HI.out
  have hrun := hlk.run
  have c1 := h.cells.2
  have hri : (room : Int) ≤ 2000000000 := by omega
  have hui : (u : Int) ≤ 2000000000 := by omega
  have hwr : IntKind.i64.wrap ((room : Int) - (u : Int)) = (room : Int) - (u : Int) := IntWalk.i64_in _ ⟨by omega, by omega⟩
  have hfi : (room : Int) - (u : Int) < (s.length : Int) := by omega
  have hbx := (Below.refl w.heap.size w).alloc (Nat.le_refl _) (.cells #[.slice a d.length c, .int .i64 (syn : Int)] 55)
  have HB := Lib.hid hbx
  have HD := Lib.hid h
  have HQ := Lib.hid hq
  have HLK := Lib.hid hlk
  clear h hlk hq hlen hbx HI
  go_enter Try.func10, Try.ntmps10
  go_wp2_with fail
  refine (Name_l n _ (by omega)).mono ?_
  rintro x w3 ⟨rfl, hb3⟩
  rw [HQ.out]
  have e0 := box_at hb3 0
  have e1 := box_at hb3 1
  simp at e0 e1
  have HE := Lib.hid (And.intro e0 e1)
  have HB3 := Lib.hid (HB.out.trans (hb3.mono HB.out.size))
  have HD3 := Lib.hid (HD.out.below HB3.out)
  have c3 := HD3.out.cells.2
  have kl := HD3.out.len
  have HUS : Hid (∀ a, Below w3.heap.size w3 a → Calls Try.prog 16 #[dP p] a fun x w' => x = .returned (.int .i64 (u : Int)) ∧ Below a.heap.size a w') := Lib.hid fun a hb => by
    have := used_l (HD3.out.below hb) hs (by rw [HU.out]; omega)
    rw [HU.out] at this
    exact this
  have hS : w3.cell? ⟨p, 0, none⟩ = some (.int .i64 (room : Int)) ∧ Below w3.heap.size w3 w3 := ⟨HD3.out.cells.1, Below.refl _ _⟩
  clear hb3 c1 e0 e1 hrun
  cases is2
  · have h40i : ¬ ((40 : Int) ≤ (l.length : Int)) := by have := h40 rfl; omega
    go_wp2
    go_region_held3 (fun w' => w'.cell? ⟨p, 0, none⟩ = some (.int .i64 (room : Int)) ∧ Below w3.heap.size w3 w')
      (first | assumption | exact R3_drew (by assumption) | exact R3_call (by assumption) (by assumption))
      (first | (go_at_call 16; with_reducible refine (HUS.out _ (And.right (by assumption))).mono ?_; rintro x w4 ⟨rfl, hq4⟩))
    rename_i hHeld
    have HM := Lib.hid (Mv.same HD.out (HB3.out.trans (hHeld.2.mono HB3.out.size)))
    clear hHeld hS c3 kl
    go_wp2
    go_ret
    exact ⟨rfl, HM.out⟩
  · go_wp2
    go_region_held3 (fun w' => w'.cell? ⟨p, 0, none⟩ = some (.int .i64 (room : Int)) ∧ Below w3.heap.size w3 w')
      (first | assumption | exact R3_drew (by assumption) | exact R3_call (by assumption) (by assumption))
      (first | (go_at_call 16; with_reducible refine (HUS.out _ (And.right (by assumption))).mono ?_; rintro x w4 ⟨rfl, hq4⟩))
    rename_i hHeld
    have HM := Lib.hid (Mv.same HD.out (HB3.out.trans (hHeld.2.mono HB3.out.size)))
    clear hHeld hS c3 kl
    go_wp2
    go_ret
    exact ⟨rfl, HM.out⟩
theorem used_memb {f : F} : ∀ {l : List F}, f ∈ l → f.data.length ≤ used l
  | g :: l, h => by
    rcases List.mem_cons.1 h with rfl | h
    · rw [used]; omega
    · have := used_memb h
      rw [used]; omega
theorem app_apart {w5 : World} (h : DA bs w p m room l loc) (hsz : w.heap.size ≤ w5.heap.size) {n : Tx} {v v2 : Value} (hap : ∀ g ∈ l, g.name ≠ n → ∀ k, v.ownBlock = some k → (loc g.name).ownBlock ≠ some k) (hw : v2.ownBlock = v.ownBlock ∨ ∃ k, w5.heap.size ≤ k ∧ v2.ownBlock = some k) :
    ∀ g ∈ l, g.name ≠ n → ∀ k, v2.ownBlock = some k → (loc g.name).ownBlock ≠ some k := fun g hg hne k hk => by
  rcases hw with e | ⟨k2, hk2, e⟩
  · exact hap g hg hne k (by rw [← e]; exact hk)
  · intro e2
    have := (h.low (.inr (.inr ⟨g, hg, e2⟩))).2
    rw [hk] at e
    have := Option.some.inj e
    omega
set_option maxHeartbeats 4000000 in
set_option maxRecDepth 100000 in
theorem app_ok (h : DA bs w p m room l loc) (hs : Sorted l) (hl : l.length ≤ 1000) (hro : room ≤ 2000000000) (hn : n.length ≤ 9223372036854775807) (hsl : s.length ≤ 2000000000) (hq : nameL n = true) (u : Nat) (HU : Hid (used l = u)) (hu : u ≤ 2000000000) (is : Bool) (HI : Hid ((find n l).isSome = is)) (h40 : is = false → l.length < 40) (hfu : u + s.length ≤ room) (f2 : F) (HF : Hid ((match find n l with | some f => (⟨n, f.data ++ s, f.syn⟩ : F) | none => ⟨n, s, 0⟩) = f2)) :
    Calls Try.prog 10 #[dP p, .string (B n), .string (B s)] w fun x w' => x = .returned (.int .i64 0) ∧ Mv bs w p m room l loc (D.put f2 l) w' := by
  obtain ⟨d, syn, a, c, is2, hlk, hlen⟩ := h.lk n hn
  obtain rfl : is2 = is := hlk.is.symm.trans HI.out
  have hrun := hlk.run
  have c1 := h.cells.2
  have hri : (room : Int) ≤ 2000000000 := by omega
  have hui : (u : Int) ≤ 2000000000 := by omega
  have hwr : IntKind.i64.wrap ((room : Int) - (u : Int)) = (room : Int) - (u : Int) := IntWalk.i64_in _ ⟨by omega, by omega⟩
  have hfi : ¬ ((room : Int) - (u : Int) < (s.length : Int)) := by omega
  have hdl : d.length ≤ 2000000000 := by
    rw [hlen]
    cases hf : find n l with
    | none => exact Nat.zero_le _
    | some f =>
      have := used_memb (find_some hf).1
      have := HU.out
      show f.data.length ≤ _
      omega
  have HDT : Hid (f2 = ⟨n, d ++ s, syn⟩) := Lib.hid (HF.out.symm.trans (hlk.dat s))
  clear HF
  have hbx := (Below.refl w.heap.size w).alloc (Nat.le_refl _) (.cells #[.slice a d.length c, .int .i64 (syn : Int)] 55)
  have HB := Lib.hid hbx
  have HD := Lib.hid h
  have HQ := Lib.hid hq
  have HLK := Lib.hid hlk
  clear h hlk hq hlen hbx HI
  go_enter Try.func10, Try.ntmps10
  go_wp2_with fail
  refine (Name_l n _ (by omega)).mono ?_
  rintro x w3 ⟨rfl, hb3⟩
  rw [HQ.out]
  have e0 := box_at hb3 0
  have e1 := box_at hb3 1
  simp at e0 e1
  have HE := Lib.hid (And.intro e0 e1)
  have HB3 := Lib.hid (HB.out.trans (hb3.mono HB.out.size))
  have HD3 := Lib.hid (HD.out.below HB3.out)
  have c3 := HD3.out.cells.2
  have kl := HD3.out.len
  have HUS : Hid (∀ a, Below w3.heap.size w3 a → Calls Try.prog 16 #[dP p] a fun x w' => x = .returned (.int .i64 (u : Int)) ∧ Below a.heap.size a w') := Lib.hid fun a hb => by
    have := used_l (HD3.out.below hb) hs (by rw [HU.out]; omega)
    rw [HU.out] at this
    exact this
  have hS : w3.cell? ⟨p, 0, none⟩ = some (.int .i64 (room : Int)) ∧ Below w3.heap.size w3 w3 := ⟨HD3.out.cells.1, Below.refl _ _⟩
  clear hb3 c1 e0 e1 hrun
  cases is2
  · have h40i : ¬ ((40 : Int) ≤ (l.length : Int)) := by have := h40 rfl; omega
    go_wp2
    go_region_held3 (fun w' => w'.cell? ⟨p, 0, none⟩ = some (.int .i64 (room : Int)) ∧ Below w3.heap.size w3 w')
      (first | assumption | exact R3_drew (by assumption) | exact R3_call (by assumption) (by assumption))
      (first | (go_at_call 16; with_reducible refine (HUS.out _ (And.right (by assumption))).mono ?_; rintro x w4 ⟨rfl, hq4⟩))
    rename_i hHeld
    have HBW := Lib.hid hHeld.2
    have b0 := keeps HBW.out _ _ HE.out.1
    have b1 := keeps HBW.out _ _ HE.out.2
    have HB5 := Lib.hid (HB3.out.trans (HBW.out.mono HB3.out.size))
    have HR5 := Lib.hid (own_below HLK.out.row HB5.out)
    have HD5 := Lib.hid (HD.out.below HB5.out)
    clear hHeld hS c3 kl
    go_wp2_with fail
    obtain ⟨dd, HDD⟩ : ∃ dd, Hid (d ++ s = dd) := ⟨_, Lib.hid rfl⟩
    have cW := Lib.hid (with_l a c (syn : Int) d s _ HR5.out (by have := (HD5.out.low (.inl rfl)); omega) (by omega))
    rw [HDD.out] at cW
    rw [HDD.out] at HDT
    refine cW.out.mono ?_
    rintro x w6 ⟨⟨a2, c2, rfl, hown, hwh⟩, hg6⟩
    have HO6 := Lib.hid hown
    have HW6 := Lib.hid hwh
    have HG6 := Lib.hid hg6
    have HDW := Lib.hid (HD5.out.wrote HR5.out HLK.out.apart hg6)
    have HAP := Lib.hid (app_apart HD.out HB5.out.size HLK.out.apart hwh)
    clear hown hwh hg6 b0 b1 cW
    go_wp2_with fail
    refine (put_l ⟨n, dd, syn⟩ HDW.out hs hl hn a2 c2 HO6.out HAP.out).mono ?_
    rintro x w7 ⟨rfl, hd7, hg7⟩
    have HM : Hid (Mv bs w p m room l loc (D.put ⟨n, dd, syn⟩ l) w7) := Lib.hid ⟨⟨_, hd7, grow_put ⟨n, dd, syn⟩ _ hs fun k hk => by
      rcases HW6.out with e | ⟨k2, hk2, e⟩
      · exact .inl (HLK.out.blk k (by rw [← e]; exact hk))
      · rw [hk] at e
        have := Option.some.inj e
        have := HB5.out.size
        exact .inr (by omega)⟩, But.trans (But.of_below HB5.out) (But.trans (but_grown HG6.out fun k e => HLK.out.blk k e) (but_grown hg7 fun k e => by cases e; exact .inr (.inl rfl)))⟩
    clear hd7 hg7
    go_wp2
    go_ret
    rw [HDT.out]
    exact ⟨rfl, HM.out⟩
  · go_wp2
    go_region_held3 (fun w' => w'.cell? ⟨p, 0, none⟩ = some (.int .i64 (room : Int)) ∧ Below w3.heap.size w3 w')
      (first | assumption | exact R3_drew (by assumption) | exact R3_call (by assumption) (by assumption))
      (first | (go_at_call 16; with_reducible refine (HUS.out _ (And.right (by assumption))).mono ?_; rintro x w4 ⟨rfl, hq4⟩))
    rename_i hHeld
    have HBW := Lib.hid hHeld.2
    have b0 := keeps HBW.out _ _ HE.out.1
    have b1 := keeps HBW.out _ _ HE.out.2
    have HB5 := Lib.hid (HB3.out.trans (HBW.out.mono HB3.out.size))
    have HR5 := Lib.hid (own_below HLK.out.row HB5.out)
    have HD5 := Lib.hid (HD.out.below HB5.out)
    clear hHeld hS c3 kl
    go_wp2_with fail
    obtain ⟨dd, HDD⟩ : ∃ dd, Hid (d ++ s = dd) := ⟨_, Lib.hid rfl⟩
    have cW := Lib.hid (with_l a c (syn : Int) d s _ HR5.out (by have := (HD5.out.low (.inl rfl)); omega) (by omega))
    rw [HDD.out] at cW
    rw [HDD.out] at HDT
    refine cW.out.mono ?_
    rintro x w6 ⟨⟨a2, c2, rfl, hown, hwh⟩, hg6⟩
    have HO6 := Lib.hid hown
    have HW6 := Lib.hid hwh
    have HG6 := Lib.hid hg6
    have HDW := Lib.hid (HD5.out.wrote HR5.out HLK.out.apart hg6)
    have HAP := Lib.hid (app_apart HD.out HB5.out.size HLK.out.apart hwh)
    clear hown hwh hg6 b0 b1 cW
    go_wp2_with fail
    refine (put_l ⟨n, dd, syn⟩ HDW.out hs hl hn a2 c2 HO6.out HAP.out).mono ?_
    rintro x w7 ⟨rfl, hd7, hg7⟩
    have HM : Hid (Mv bs w p m room l loc (D.put ⟨n, dd, syn⟩ l) w7) := Lib.hid ⟨⟨_, hd7, grow_put ⟨n, dd, syn⟩ _ hs fun k hk => by
      rcases HW6.out with e | ⟨k2, hk2, e⟩
      · exact .inl (HLK.out.blk k (by rw [← e]; exact hk))
      · rw [hk] at e
        have := Option.some.inj e
        have := HB5.out.size
        exact .inr (by omega)⟩, But.trans (But.of_below HB5.out) (But.trans (but_grown HG6.out fun k e => HLK.out.blk k e) (but_grown hg7 fun k e => by cases e; exact .inr (.inl rfl)))⟩
    clear hd7 hg7
    go_wp2
    go_ret
    rw [HDT.out]
    exact ⟨rfl, HM.out⟩
end
end Go.Proofs.Ytmfhipjceeijmaa.D
