/-
  A message as the document's answer has it: its bytes.
-/
import Derived.Test.YtljcgpdjhjkciaaGreatMsgRef
import Derived.Test.YtljcgpdjhjkciaaGreatMsgSmall
namespace Go.Proofs.YtljcgpdjhjkciaaGreat
open Go.RowKit
attribute [local go_sem] ext_Bd ext_Bl ext_Bt toList_B add_B size_B get_Bt

/-- The bytes of the letters that are left, with the numbers that are left. -/
def restB (L : UInt8 → List UInt8) : List UInt8 → List Int → List UInt8
  | [], _ => []
  | c :: cs, ns => if c = 110 then M.putI (ns.headD 0) ++ restB L cs ns.tail else L c ++ restB L cs ns
def cntN : List UInt8 → Nat
  | [] => 0
  | c :: cs => (if c = 110 then 1 else 0) + cntN cs
structure PRel (L : UInt8 → List UInt8) (sh : List UInt8) (ns : List Int) (tot acc : List UInt8) (a k : Nat) : Prop where
  eq : acc ++ restB L (sh.drop k) (ns.drop a) = tot
  cn : a + cntN (sh.drop k) ≤ ns.length
theorem PRel.len {L : UInt8 → List UInt8} {sh : List UInt8} {ns : List Int} {tot acc : List UInt8} {a k : Nat} (h : PRel L sh ns tot acc a k) : acc.length ≤ tot.length := by
  rw [← h.eq]; simp
theorem PRel.num {L : UInt8 → List UInt8} {sh : List UInt8} {ns : List Int} {tot acc : List UInt8} {a k : Nat} (h : PRel L sh ns tot acc a k) (hk : k < sh.length) (hc : sh[k] = 110) : ∃ hl : a < ns.length, PRel L sh ns tot (acc ++ M.putI ns[a]) (a + 1) (k + 1) := by
  obtain ⟨he, hn⟩ := h
  rw [List.drop_eq_getElem_cons hk, hc] at he hn
  have hl : a < ns.length := by simp [cntN] at hn; omega
  refine ⟨hl, ?_, ?_⟩
  · rw [List.drop_eq_getElem_cons hl] at he
    have e : restB L (110 :: sh.drop (k + 1)) (ns[a] :: ns.drop (a + 1)) = M.putI ns[a] ++ restB L (sh.drop (k + 1)) (ns.drop (a + 1)) := by rw [restB, if_pos rfl]; rfl
    rw [e] at he
    rw [List.append_assoc]; exact he
  · simp [cntN] at hn; omega
theorem PRel.oth {L : UInt8 → List UInt8} {sh : List UInt8} {ns : List Int} {tot acc : List UInt8} {a k : Nat} {c : UInt8} (h : PRel L sh ns tot acc a k) (hk : k < sh.length) (hc : sh[k] = c) (hne : c ≠ 110) : PRel L sh ns tot (acc ++ L c) a (k + 1) := by
  obtain ⟨he, hn⟩ := h
  rw [List.drop_eq_getElem_cons hk, hc] at he hn
  refine ⟨?_, ?_⟩
  · have e : restB L (c :: sh.drop (k + 1)) (ns.drop a) = L c ++ restB L (sh.drop (k + 1)) (ns.drop a) := by simp [restB, hne]
    rw [e] at he
    rw [List.append_assoc]; exact he
  · simp [cntN, hne] at hn; omega
theorem PRel.done {L : UInt8 → List UInt8} {sh : List UInt8} {ns : List Int} {tot acc : List UInt8} {a k : Nat} (h : PRel L sh ns tot acc a k) (hk : ¬ k < sh.length) : acc = tot := by
  have e := h.eq
  rw [List.drop_of_length_le (by omega)] at e
  simpa [restB] using e
theorem bt_get {sh : List UInt8} {k : Nat} (h : k < sh.length) : N.bt sh k = sh[k].toNat := by
  unfold N.bt; rw [List.getD_eq_getElem?_getD, List.getElem?_eq_getElem h]; rfl
theorem shape_lets {k : Int} (h1 : 1 ≤ k) (h2 : k < 15) : ∀ c ∈ shapeT k, c = 110 ∨ c = 99 ∨ c = 100 ∨ c = 111 ∨ c = 109 ∨ c = 101 ∨ c = 118 ∨ c = 98 ∨ c = 115 := by
  rcases kind_cases h1 h2 with rfl | rfl | rfl | rfl | rfl | rfl | rfl | rfl | rfl | rfl | rfl | rfl | rfl | rfl
  all_goals (unfold shapeT; decide)
theorem shape_len {k : Int} (h1 : 1 ≤ k) (h2 : k < 15) : (shapeT k).length ≤ 7 := by
  rcases kind_cases h1 h2 with rfl | rfl | rfl | rfl | rfl | rfl | rfl | rfl | rfl | rfl | rfl | rfl | rfl | rfl
  all_goals (unfold shapeT; decide)
theorem shape_bat {k : Int} (h1 : 1 ≤ k) (h2 : k < 15) (h : (98 : UInt8) ∈ shapeT k) : k = 11 := by
  revert h
  rcases kind_cases h1 h2 with rfl | rfl | rfl | rfl | rfl | rfl | rfl | rfl | rfl | rfl | rfl | rfl | rfl | rfl
  all_goals (unfold shapeT; decide)
def letB (ch si bo : List Int) (ma : List R.Mk) (en : List R.En) (ev : List E.Ev) (bt : E.Bat) (st : List UInt8) (c : UInt8) : List UInt8 :=
  if c = 99 then M.putP (.c ch) else if c = 100 then M.putP (.c si) else if c = 111 then M.putP (.c bo) else if c = 109 then M.putP (.m ma) else if c = 101 then M.putP (.e en) else if c = 118 then M.putP (.v ev) else if c = 98 then M.putP (.b bt) else M.putP (.s st)
def flB (kind : Int) (ns : List Int) (L : UInt8 → List UInt8) : List UInt8 := kind.toNat.toUInt8 :: restB L (shapeT kind) ns
def Fl.bytes (f : Fl) : List UInt8 := flB f.kind f.ns (letB f.ch f.si f.bo f.ma (ensOf f.en) f.ev f.bt f.st)
theorem refEPut_at (e : E.Ev) (r : List UInt8) (w : World) (h1 : e.1.length ≤ 1000000) (H : Hid (E.putEv e = r)) :
    Calls Tryz.prog 26 #[evV e] w fun x w' => x = .returned (.string (B r)) ∧ Below w.heap.size w w' := by
  rw [← H.out]; exact refEPut_l e w h1
theorem refPutRow_at (es : List EV) (v : Value) (r : List UInt8) (w : World) (hv : ReadsR w v es) (hl : es.length ≤ 40) (hs : ∀ x ∈ es, E.Tiny x.1.b) (H : Hid (R.putRow (ensOf es) = r)) :
    Calls Tryz.prog 25 #[v] w fun x w' => x = .returned (.string (B r)) ∧ Below w.heap.size w w' := by
  rw [← H.out]; exact refPutRow_l es v w hv hl hs
theorem refPutBat_at (b : E.Bat) (v : Value) (r : List UInt8) (w : World) (hv : ReadsE w v b.events) (hf : E.fits b = 0) (H : Hid (E.bytes b = r)) :
    Calls Tryz.prog 27 #[batV b v] w fun x w' => x = .returned (.string (B r)) ∧ Below w.heap.size w w' := by
  rw [← H.out]; exact refPutBat_ok b v w hv hf
theorem held_len {n : Nat} (h : n ≤ 1000000) : N.held (n : Int) = n := by unfold N.held; omega
theorem conv_byte (b : UInt8) (w : World) : (convert 92 9 (.slice (some ⟨w.heap.size, 0, none⟩) 1 1)).run Tryz.prog (w.alloc (.cells #[.int .u8 (b.toNat : Int)] 5)) = .ok (.string (B [b])) (w.alloc (.cells #[.int .u8 (b.toNat : Int)] 5)) :=
  conv_owned (base := w.heap.size) (n := 1) (l := [b]) ⟨rfl, .inr ⟨w.heap.size, 1, #[.int .u8 (b.toNat : Int)], rfl, Nat.le_refl _, World.alloc_heap_new w _, by omega, by unfold maxLen; omega, rfl, rfl⟩⟩
def BoxM (w0 : World) (g : Nat) (v : Value) (b o : Nat) (x y : Value) (a : World) : Prop :=
  a.cell? ⟨g, 5, none⟩ = some v ∧ a.cell? ⟨b, o, none⟩ = some x ∧ a.cell? ⟨b, o + 1, none⟩ = some y ∧ KeptB w0 a
theorem boxM_drew {w0 : World} {g : Nat} {v : Value} {b o : Nat} {x y : Value} {a : World} (h : BoxM w0 g v b o x y a) : BoxM w0 g v b o x y a.drew := ⟨h.1, h.2.1, h.2.2.1, keptB_drew h.2.2.2⟩
theorem boxM_call {w0 : World} {g : Nat} {v : Value} {b o : Nat} {x y : Value} {a c : World} (h : BoxM w0 g v b o x y a) (hb : Below a.heap.size a c) : BoxM w0 g v b o x y c :=
  ⟨below_keeps hb _ _ h.1, below_keeps hb _ _ h.2.1, below_keeps hb _ _ h.2.2.1, keptB_call h.2.2.2 hb⟩
theorem flat_drop {α : Type} {g : α → List UInt8} {l : List α} {j : Nat} (h : j < l.length) : (l.drop j).flatMap g = g l[j] ++ (l.drop (j + 1)).flatMap g := by
  rw [List.drop_eq_getElem_cons h, List.flatMap_cons]
theorem flat_left {α : Type} {g : α → List UInt8} {l : List α} {j : Nat} {t u : List UInt8} (h : ¬ j < l.length) (e : t ++ (l.drop j).flatMap g = u) : t = u := by
  rw [List.drop_of_length_le (by omega)] at e; simpa using e
theorem len_of {t p r u : List UInt8} {n : Nat} (e : t ++ (p ++ r) = u) (h : u.length ≤ n) : t.length + p.length ≤ n := by
  rw [← e] at h; simp only [List.length_append] at h; omega

set_option maxHeartbeats 16000000 in
set_option maxRecDepth 100000 in
theorem refPut7_ok (f : Fl) (w : World) (hr : f.Reads w) (HF : Hid (f.right = true)) (hcn : cntN (shapeT f.kind) ≤ f.ns.length) (htl : f.bytes.length ≤ 1000000) :
    Calls Tryz.prog 11 #[f.val] w fun x w' => x = .returned (.string (B f.bytes)) ∧ Below w.heap.size w w' := by
  have hal : ∀ t ∈ tests f.kind f.ns f.ch f.si f.bo f.ma (ensOf f.en) f.ev f.bt f.st, t = true := fun t ht => by
    have := List.all_eq_true.1 HF.out t ht
    simpa using this
  have hk := of_decide_eq_true (hal (decide (1 ≤ f.kind ∧ f.kind < 15)) (by simp [tests]))
  have hlc := of_decide_eq_true (hal (decide (f.ch.length ≤ 6)) (by simp [tests]))
  have hli := of_decide_eq_true (hal (decide (f.si.length ≤ 6)) (by simp [tests]))
  have hlb := of_decide_eq_true (hal (decide (f.bo.length ≤ 6)) (by simp [tests]))
  have hlm := of_decide_eq_true (hal (decide (f.ma.length ≤ 30)) (by simp [tests]))
  have hle := of_decide_eq_true (hal (decide ((ensOf f.en).length ≤ 8)) (by simp [tests]))
  have hlv := of_decide_eq_true (hal (decide (f.ev.length ≤ 16)) (by simp [tests]))
  have HEN := Lib.hid (hal ((ensOf f.en).all R.right) (by simp [tests]))
  have HEV := Lib.hid (hal (f.ev.all E.right) (by simp [tests]))
  have HLT := Lib.hid (hal (lastT f.kind f.st f.bt) (by simp [tests]))
  rw [ensOf_len] at hle
  clear hal
  have HRD := Lib.hid hr
  obtain ⟨kind, ns, ch, si, bo, ma, en, ev, ⟨bst, bex, bse, bsq, bev⟩, st, vn, vc, vs, vb, vm, ve, vv, vt⟩ := f
  obtain ⟨hns, hch, hsi, hbo, hma, hen, hev, hbt, hln, hten, htev, htbt, htst⟩ := hr
  dsimp only at hns hch hsi hbo hma hen hev hbt hln hten htev htbt htst hk hlc hli hlb hlm hle hlv HEN HEV HLT hcn htl ⊢
  have HBT := Lib.hid hbt
  have HEE := Lib.hid hen
  have HTBT := Lib.hid htbt
  have HTST := Lib.hid htst
  have HTEN := Lib.hid hten
  have HTEV := Lib.hid htev
  clear hten htev htbt htst
  obtain ⟨an, cn, rfl, hx⟩ := hns
  have HXn := Lib.hid hx
  clear hx
  obtain ⟨ac, cc, rfl, hx⟩ := hch
  have HXc := Lib.hid hx
  clear hx
  obtain ⟨ai, ci, rfl, hx⟩ := hsi
  have HXi := Lib.hid hx
  clear hx
  obtain ⟨ab, cb, rfl, hx⟩ := hbo
  have HXb := Lib.hid hx
  clear hx
  obtain ⟨am, cm, rfl, -, -, hx⟩ := hma
  have HXm := Lib.hid hx
  clear hx
  obtain ⟨ae, ce, rfl, -, -, -⟩ := hen
  obtain ⟨av, cv, rfl, -, -, hx⟩ := hev
  have HXv := Lib.hid hx
  clear hx
  obtain ⟨at_, ct, rfl, -⟩ := hbt
  obtain ⟨sh, HSH⟩ : ∃ sh, Hid (shapeT kind = sh) := ⟨_, Lib.hid rfl⟩
  have HLS := Lib.hid (shape_lets hk.1 hk.2)
  have HSB := Lib.hid (shape_bat hk.1 hk.2)
  have hsl := shape_len hk.1 hk.2
  obtain ⟨L, HL⟩ : ∃ L, Hid (letB ch si bo ma (ensOf en) ev ⟨bst, bex, bse, bsq, bev⟩ st = L) := ⟨_, Lib.hid rfl⟩
  obtain ⟨tot, HTOT⟩ : ∃ t, Hid (Fl.bytes ⟨kind, ns, ch, si, bo, ma, en, ev, ⟨bst, bex, bse, bsq, bev⟩, st, .slice an ns.length cn, .slice ac ch.length cc, .slice ai si.length ci, .slice ab bo.length cb, .slice am ma.length cm, .slice ae en.length ce, .slice av ev.length cv, .slice at_ bev.length ct⟩ = t) := ⟨_, Lib.hid rfl⟩
  rw [HTOT.out] at htl ⊢
  have HP0 : Hid (PRel L sh ns tot [kind.toNat.toUInt8] 0 0) := Lib.hid ⟨by rw [← HTOT.out, ← HSH.out, ← HL.out]; rfl, by rw [← HSH.out]; simpa using hcn⟩
  rw [HSH.out] at HLS HSB hsl
  clear HTOT hcn
  obtain ⟨kb, hkb⟩ : ∃ b : UInt8, kind = (b.toNat : Int) := ⟨kind.toNat.toUInt8, by simp; omega⟩
  have e0 : kind.toNat.toUInt8 = kb := by rw [hkb]; simp
  rw [e0] at HP0
  clear e0
  have hkb1 : 1 ≤ kb.toNat := by omega
  have hkb2 : kb.toNat < 15 := by omega
  subst hkb
  go_enter Tryz.func11, Tryz.ntmps11
  go_wp2_with fail
  refine (refRight7_at ⟨(kb.toNat : Int), ns, ch, si, bo, ma, en, ev, ⟨bst, bex, bse, bsq, bev⟩, st, .slice an ns.length cn, .slice ac ch.length cc, .slice ai si.length ci, .slice ab bo.length cb, .slice am ma.length cm, .slice ae en.length ce, .slice av ev.length cv, .slice at_ bev.length ct⟩ true _ (HRD.out.below ((Below.refl _ w).alloc (Nat.le_refl _) _)) HF).mono ?_
  rintro x W1 ⟨rfl, hb1⟩
  have HC1 : Hid (∀ j, W1.cell? ⟨w.heap.size, j, none⟩ = #[.int .i64 (kb.toNat : Int), .slice an ns.length cn, .slice ac ch.length cc, .slice ai si.length ci, .slice ab bo.length cb, .slice am ma.length cm, .slice ae en.length ce, .slice av ev.length cv, .string (B bst), .int .i64 bex, .int .i64 bse, .int .i64 bsq, .slice at_ bev.length ct, .string (B st)][j]?) := Lib.hid fun j => box_at hb1 j
  have HB1 := Lib.hid (below_box hb1)
  clear hb1 HF HRD
  have c0 : W1.cell? ⟨w.heap.size, 0, none⟩ = some (.int .i64 (kb.toNat : Int)) := (HC1.out 0).trans rfl
  have hbA : Below W1.heap.size W1 (W1.alloc (.cells #[.int .u8 (kb.toNat : Int)] 5)) := (Below.refl _ W1).alloc (Nat.le_refl _) _
  have HBA := Lib.hid hbA
  have c0' : (W1.alloc (.cells #[.int .u8 (kb.toNat : Int)] 5)).cell? ⟨w.heap.size, 0, none⟩ = some (.int .i64 (kb.toNat : Int)) := below_keeps hbA _ _ c0
  clear hbA
  have kc := conv_byte kb W1
  go_wp2_with fail
  refine (shape_at (kb.toNat : Int) sh _ HSH).mono ?_
  rintro x W ⟨rfl, hb2⟩
  have HB2 := Lib.hid (HBA.out.trans (hb2.mono HBA.out.size))
  have HC : Hid (∀ (j : Nat) (u : Value), #[.int .i64 (kb.toNat : Int), .slice an ns.length cn, .slice ac ch.length cc, .slice ai si.length ci, .slice ab bo.length cb, .slice am ma.length cm, .slice ae en.length ce, .slice av ev.length cv, .string (B bst), .int .i64 bex, .int .i64 bse, .int .i64 bsq, .slice at_ bev.length ct, .string (B st)][j]? = some u → W.cell? ⟨w.heap.size, j, none⟩ = some u) := Lib.hid fun j u h => below_keeps HB2.out _ _ ((HC1.out j).trans h)
  have HB := Lib.hid (HB1.out.trans (HB2.out.mono HB1.out.size))
  clear hb2 c0 c0' kc HBA HB1 HB2 HC1 HSH hk
  go_wp2
  go_loopw [4, 6, 7] (fun s z i wr => ∃ (k a : Nat) (acc : List UInt8), i = .int .i64 k ∧ z = .int .i64 a ∧ s = .string (B acc) ∧ k ≤ sh.length ∧ Hid (PRel L sh ns tot acc a k) ∧ Below W.heap.size W wr) (fun _ _ i _ => sh.length - (intOf i).toNat)
  case atStart => exact ⟨0, 0, [kb], rfl, rfl, rfl, Nat.zero_le _, HP0, Below.refl _ _⟩
  case round =>
    obtain ⟨k, a, acc, rfl, rfl, rfl, hks, HP, hbw⟩ := hrel
    clear HP0
    have HW := Lib.hid hbw
    clear hbw
    have HBW := Lib.hid (HB.out.trans (HW.out.mono HB.out.size))
    by_cases hlt : k < sh.length
    · have hk1 : (k : Int) < (sh.length : Int) := by omega
      have hle1 := HP.out.len
      have hbt := bt_get hlt
      rcases HLS.out _ (List.getElem_mem hlt) with hc | hc | hc | hc | hc | hc | hc | hc | hc
      · have t110 : (((N.bt sh k : Nat) : Int) == 110) = true := by rw [hbt, hc]; rfl
        obtain ⟨hal, hnx⟩ := HP.out.num hlt hc
        obtain ⟨b1, o1, rfl, g⟩ := HXn.out a hal
        have z1 : wr.cell? ⟨b1, o1 + a, none⟩ = some (.int .i64 ns[a]) := below_keeps HBW.out _ _ g
        have ha1 : (a : Int) < (ns.length : Int) := by omega
        have y : wr.cell? ⟨w.heap.size, 1, none⟩ = some (.slice (some ⟨b1, o1, none⟩) ns.length cn) := below_keeps HW.out _ _ (HC.out 1 _ rfl)
        clear g hbt hc
        generalize ns[a] = zz at z1 hnx
        obtain ⟨p, HQ⟩ : ∃ p, Hid (M.putI zz = p) := ⟨_, Lib.hid rfl⟩
        rw [HQ.out] at hnx
        have hak : acc.length + p.length ≤ 1000000 := by have := hnx.len; rw [List.length_append] at this; omega
        have HN := Lib.hid hnx
        clear hnx HP
        go_wp2_with fail
        refine (refNPut_at zz p _ HQ).mono ?_
        rintro x w2 ⟨rfl, hb2⟩
        have HBX := Lib.hid (HW.out.trans (hb2.mono HW.out.size))
        clear hb2 z1 y
        go_wp2
        go_roundw
        case rel => exact ⟨k + 1, a + 1, acc ++ p, by go_num, by go_num, rfl, by omega, HN, HBX.out⟩
        case measure => simp [intOf]; omega
      · have t110 : (((N.bt sh k : Nat) : Int) == 110) = false := by rw [hbt, hc]; rfl
        have t99 : (((N.bt sh k : Nat) : Int) == 99) = true := by rw [hbt, hc]; rfl
        have hnx := HP.out.oth hlt hc (by decide)
        clear hbt hc HP
        have e1 : L 99 = M.putP (.c ch) := by rw [← HL.out]; rfl
        rw [e1] at hnx
        obtain ⟨hd, HHD⟩ : ∃ p, Hid (N.putL (N.held (ch.length : Int)) = p) := ⟨_, Lib.hid rfl⟩
        have e2 : M.putP (.c ch) = hd ++ ch.flatMap M.putI := by rw [← HHD.out, held_len (by omega)]; rfl
        obtain ⟨a1, HA1⟩ : ∃ p, Hid (acc ++ M.putP (.c ch) = p) := ⟨_, Lib.hid rfl⟩
        rw [HA1.out] at hnx
        have ha1 : a1.length ≤ 1000000 := by have := hnx.len; omega
        have HA2 : Hid ((acc ++ hd) ++ (ch.drop 0).flatMap M.putI = a1) := Lib.hid (by rw [← HA1.out, e2]; simp)
        have hak : acc.length + hd.length ≤ 1000000 := len_of (r := ch.flatMap M.putI) (by rw [← HA1.out, e2]) ha1
        have HN := Lib.hid hnx
        clear hnx e1 e2 HA1
        have y : wr.cell? ⟨w.heap.size, 2, none⟩ = some (.slice ac ch.length cc) := below_keeps HW.out _ _ (HC.out 2 _ rfl)
        go_wp2_with fail
        refine (refNPut_at (ch.length : Int) hd _ HHD).mono ?_
        rintro x w2 ⟨rfl, hb2⟩
        have HW0 := Lib.hid (HW.out.trans (hb2.mono HW.out.size))
        clear hb2 y HW HBW HHD
        go_wp2
        go_loopw [4, 8] (fun s i wr => ∃ (j : Nat) (t : List UInt8), i = .int .i64 j ∧ j ≤ ch.length ∧ s = .string (B t) ∧ Hid (t ++ (ch.drop j).flatMap M.putI = a1) ∧ Below W.heap.size W wr) (fun _ i _ => ch.length - (intOf i).toNat)
        case atStart => exact ⟨0, acc ++ hd, rfl, Nat.zero_le _, rfl, HA2, HW0.out⟩
        case round =>
          obtain ⟨j, t, rfl, hj, rfl, HT, hbw⟩ := hrel
          clear HA2 HW0
          have HW := Lib.hid hbw
          clear hbw
          have HBW := Lib.hid (HB.out.trans (HW.out.mono HB.out.size))
          by_cases hjl : j < ch.length
          · have hj1 : (j : Int) < (ch.length : Int) := by omega
            obtain ⟨b1, o1, rfl, g⟩ := HXc.out j hjl
            have z1 : wr.cell? ⟨b1, o1 + j, none⟩ = some (.int .i64 ch[j]) := below_keeps HBW.out _ _ g
            have y : wr.cell? ⟨w.heap.size, 2, none⟩ = some (.slice (some ⟨b1, o1, none⟩) ch.length cc) := below_keeps HW.out _ _ (HC.out 2 _ rfl)
            have hs := HT.out
            rw [flat_drop hjl] at hs
            clear g
            generalize ch[j] = zz at z1 hs
            obtain ⟨p, HQ⟩ : ∃ p, Hid (M.putI zz = p) := ⟨_, Lib.hid rfl⟩
            rw [HQ.out] at hs
            have htp := len_of hs ha1
            have HT2 : Hid (t ++ p ++ (ch.drop (j + 1)).flatMap M.putI = a1) := Lib.hid (by rw [List.append_assoc]; exact hs)
            clear hs HT
            go_wp2_with fail
            refine (refNPut_at zz p _ HQ).mono ?_
            rintro x w3 ⟨rfl, hb3⟩
            have HBX := Lib.hid (HW.out.trans (hb3.mono HW.out.size))
            clear hb3 z1 y
            go_wp2
            go_roundw
            case rel => exact ⟨j + 1, t ++ p, by go_num, by omega, rfl, HT2, HBX.out⟩
            case measure => simp [intOf]; omega
          · have hj1 : ¬ (j : Int) < (ch.length : Int) := by omega
            have y : wr.cell? ⟨w.heap.size, 2, none⟩ = some (.slice ac ch.length cc) := below_keeps HW.out _ _ (HC.out 2 _ rfl)
            have et := flat_left hjl HT.out
            clear HT
            subst et
            have HBX := HW
            go_wp2
            go_roundw
            case rel => exact ⟨k + 1, a, t, by go_num, rfl, rfl, by omega, HN, HBX.out⟩
            case measure => simp [intOf]; omega
      · have t110 : (((N.bt sh k : Nat) : Int) == 110) = false := by rw [hbt, hc]; rfl
        have t99 : (((N.bt sh k : Nat) : Int) == 99) = false := by rw [hbt, hc]; rfl
        have t100 : (((N.bt sh k : Nat) : Int) == 100) = true := by rw [hbt, hc]; rfl
        have hnx := HP.out.oth hlt hc (by decide)
        clear hbt hc HP
        have e1 : L 100 = M.putP (.c si) := by rw [← HL.out]; rfl
        rw [e1] at hnx
        obtain ⟨hd, HHD⟩ : ∃ p, Hid (N.putL (N.held (si.length : Int)) = p) := ⟨_, Lib.hid rfl⟩
        have e2 : M.putP (.c si) = hd ++ si.flatMap M.putI := by rw [← HHD.out, held_len (by omega)]; rfl
        obtain ⟨a1, HA1⟩ : ∃ p, Hid (acc ++ M.putP (.c si) = p) := ⟨_, Lib.hid rfl⟩
        rw [HA1.out] at hnx
        have ha1 : a1.length ≤ 1000000 := by have := hnx.len; omega
        have HA2 : Hid ((acc ++ hd) ++ (si.drop 0).flatMap M.putI = a1) := Lib.hid (by rw [← HA1.out, e2]; simp)
        have hak : acc.length + hd.length ≤ 1000000 := len_of (r := si.flatMap M.putI) (by rw [← HA1.out, e2]) ha1
        have HN := Lib.hid hnx
        clear hnx e1 e2 HA1
        have y : wr.cell? ⟨w.heap.size, 3, none⟩ = some (.slice ai si.length ci) := below_keeps HW.out _ _ (HC.out 3 _ rfl)
        go_wp2_with fail
        refine (refNPut_at (si.length : Int) hd _ HHD).mono ?_
        rintro x w2 ⟨rfl, hb2⟩
        have HW0 := Lib.hid (HW.out.trans (hb2.mono HW.out.size))
        clear hb2 y HW HBW HHD
        go_wp2
        go_loopw [4, 9] (fun s i wr => ∃ (j : Nat) (t : List UInt8), i = .int .i64 j ∧ j ≤ si.length ∧ s = .string (B t) ∧ Hid (t ++ (si.drop j).flatMap M.putI = a1) ∧ Below W.heap.size W wr) (fun _ i _ => si.length - (intOf i).toNat)
        case atStart => exact ⟨0, acc ++ hd, rfl, Nat.zero_le _, rfl, HA2, HW0.out⟩
        case round =>
          obtain ⟨j, t, rfl, hj, rfl, HT, hbw⟩ := hrel
          clear HA2 HW0
          have HW := Lib.hid hbw
          clear hbw
          have HBW := Lib.hid (HB.out.trans (HW.out.mono HB.out.size))
          by_cases hjl : j < si.length
          · have hj1 : (j : Int) < (si.length : Int) := by omega
            obtain ⟨b1, o1, rfl, g⟩ := HXi.out j hjl
            have z1 : wr.cell? ⟨b1, o1 + j, none⟩ = some (.int .i64 si[j]) := below_keeps HBW.out _ _ g
            have y : wr.cell? ⟨w.heap.size, 3, none⟩ = some (.slice (some ⟨b1, o1, none⟩) si.length ci) := below_keeps HW.out _ _ (HC.out 3 _ rfl)
            have hs := HT.out
            rw [flat_drop hjl] at hs
            clear g
            generalize si[j] = zz at z1 hs
            obtain ⟨p, HQ⟩ : ∃ p, Hid (M.putI zz = p) := ⟨_, Lib.hid rfl⟩
            rw [HQ.out] at hs
            have htp := len_of hs ha1
            have HT2 : Hid (t ++ p ++ (si.drop (j + 1)).flatMap M.putI = a1) := Lib.hid (by rw [List.append_assoc]; exact hs)
            clear hs HT
            go_wp2_with fail
            refine (refNPut_at zz p _ HQ).mono ?_
            rintro x w3 ⟨rfl, hb3⟩
            have HBX := Lib.hid (HW.out.trans (hb3.mono HW.out.size))
            clear hb3 z1 y
            go_wp2
            go_roundw
            case rel => exact ⟨j + 1, t ++ p, by go_num, by omega, rfl, HT2, HBX.out⟩
            case measure => simp [intOf]; omega
          · have hj1 : ¬ (j : Int) < (si.length : Int) := by omega
            have y : wr.cell? ⟨w.heap.size, 3, none⟩ = some (.slice ai si.length ci) := below_keeps HW.out _ _ (HC.out 3 _ rfl)
            have et := flat_left hjl HT.out
            clear HT
            subst et
            have HBX := HW
            go_wp2
            go_roundw
            case rel => exact ⟨k + 1, a, t, by go_num, rfl, rfl, by omega, HN, HBX.out⟩
            case measure => simp [intOf]; omega
      · have t110 : (((N.bt sh k : Nat) : Int) == 110) = false := by rw [hbt, hc]; rfl
        have t99 : (((N.bt sh k : Nat) : Int) == 99) = false := by rw [hbt, hc]; rfl
        have t100 : (((N.bt sh k : Nat) : Int) == 100) = false := by rw [hbt, hc]; rfl
        have t111 : (((N.bt sh k : Nat) : Int) == 111) = true := by rw [hbt, hc]; rfl
        have hnx := HP.out.oth hlt hc (by decide)
        clear hbt hc HP
        have e1 : L 111 = M.putP (.c bo) := by rw [← HL.out]; rfl
        rw [e1] at hnx
        obtain ⟨hd, HHD⟩ : ∃ p, Hid (N.putL (N.held (bo.length : Int)) = p) := ⟨_, Lib.hid rfl⟩
        have e2 : M.putP (.c bo) = hd ++ bo.flatMap M.putI := by rw [← HHD.out, held_len (by omega)]; rfl
        obtain ⟨a1, HA1⟩ : ∃ p, Hid (acc ++ M.putP (.c bo) = p) := ⟨_, Lib.hid rfl⟩
        rw [HA1.out] at hnx
        have ha1 : a1.length ≤ 1000000 := by have := hnx.len; omega
        have HA2 : Hid ((acc ++ hd) ++ (bo.drop 0).flatMap M.putI = a1) := Lib.hid (by rw [← HA1.out, e2]; simp)
        have hak : acc.length + hd.length ≤ 1000000 := len_of (r := bo.flatMap M.putI) (by rw [← HA1.out, e2]) ha1
        have HN := Lib.hid hnx
        clear hnx e1 e2 HA1
        have y : wr.cell? ⟨w.heap.size, 4, none⟩ = some (.slice ab bo.length cb) := below_keeps HW.out _ _ (HC.out 4 _ rfl)
        go_wp2_with fail
        refine (refNPut_at (bo.length : Int) hd _ HHD).mono ?_
        rintro x w2 ⟨rfl, hb2⟩
        have HW0 := Lib.hid (HW.out.trans (hb2.mono HW.out.size))
        clear hb2 y HW HBW HHD
        go_wp2
        go_loopw [4, 10] (fun s i wr => ∃ (j : Nat) (t : List UInt8), i = .int .i64 j ∧ j ≤ bo.length ∧ s = .string (B t) ∧ Hid (t ++ (bo.drop j).flatMap M.putI = a1) ∧ Below W.heap.size W wr) (fun _ i _ => bo.length - (intOf i).toNat)
        case atStart => exact ⟨0, acc ++ hd, rfl, Nat.zero_le _, rfl, HA2, HW0.out⟩
        case round =>
          obtain ⟨j, t, rfl, hj, rfl, HT, hbw⟩ := hrel
          clear HA2 HW0
          have HW := Lib.hid hbw
          clear hbw
          have HBW := Lib.hid (HB.out.trans (HW.out.mono HB.out.size))
          by_cases hjl : j < bo.length
          · have hj1 : (j : Int) < (bo.length : Int) := by omega
            obtain ⟨b1, o1, rfl, g⟩ := HXb.out j hjl
            have z1 : wr.cell? ⟨b1, o1 + j, none⟩ = some (.int .i64 bo[j]) := below_keeps HBW.out _ _ g
            have y : wr.cell? ⟨w.heap.size, 4, none⟩ = some (.slice (some ⟨b1, o1, none⟩) bo.length cb) := below_keeps HW.out _ _ (HC.out 4 _ rfl)
            have hs := HT.out
            rw [flat_drop hjl] at hs
            clear g
            generalize bo[j] = zz at z1 hs
            obtain ⟨p, HQ⟩ : ∃ p, Hid (M.putI zz = p) := ⟨_, Lib.hid rfl⟩
            rw [HQ.out] at hs
            have htp := len_of hs ha1
            have HT2 : Hid (t ++ p ++ (bo.drop (j + 1)).flatMap M.putI = a1) := Lib.hid (by rw [List.append_assoc]; exact hs)
            clear hs HT
            go_wp2_with fail
            refine (refNPut_at zz p _ HQ).mono ?_
            rintro x w3 ⟨rfl, hb3⟩
            have HBX := Lib.hid (HW.out.trans (hb3.mono HW.out.size))
            clear hb3 z1 y
            go_wp2
            go_roundw
            case rel => exact ⟨j + 1, t ++ p, by go_num, by omega, rfl, HT2, HBX.out⟩
            case measure => simp [intOf]; omega
          · have hj1 : ¬ (j : Int) < (bo.length : Int) := by omega
            have y : wr.cell? ⟨w.heap.size, 4, none⟩ = some (.slice ab bo.length cb) := below_keeps HW.out _ _ (HC.out 4 _ rfl)
            have et := flat_left hjl HT.out
            clear HT
            subst et
            have HBX := HW
            go_wp2
            go_roundw
            case rel => exact ⟨k + 1, a, t, by go_num, rfl, rfl, by omega, HN, HBX.out⟩
            case measure => simp [intOf]; omega
      · have t110 : (((N.bt sh k : Nat) : Int) == 110) = false := by rw [hbt, hc]; rfl
        have t99 : (((N.bt sh k : Nat) : Int) == 99) = false := by rw [hbt, hc]; rfl
        have t100 : (((N.bt sh k : Nat) : Int) == 100) = false := by rw [hbt, hc]; rfl
        have t111 : (((N.bt sh k : Nat) : Int) == 111) = false := by rw [hbt, hc]; rfl
        have t109 : (((N.bt sh k : Nat) : Int) == 109) = true := by rw [hbt, hc]; rfl
        have hnx := HP.out.oth hlt hc (by decide)
        clear hbt hc HP
        have e1 : L 109 = M.putP (.m ma) := by rw [← HL.out]; rfl
        rw [e1] at hnx
        obtain ⟨hd, HHD⟩ : ∃ p, Hid (N.putL (N.held (ma.length : Int)) = p) := ⟨_, Lib.hid rfl⟩
        have e2 : M.putP (.m ma) = hd ++ ma.flatMap M.putM := by rw [← HHD.out, held_len (by omega)]; rfl
        obtain ⟨a1, HA1⟩ : ∃ p, Hid (acc ++ M.putP (.m ma) = p) := ⟨_, Lib.hid rfl⟩
        rw [HA1.out] at hnx
        have ha1 : a1.length ≤ 1000000 := by have := hnx.len; omega
        have HA2 : Hid ((acc ++ hd) ++ (ma.drop 0).flatMap M.putM = a1) := Lib.hid (by rw [← HA1.out, e2]; simp)
        have hak : acc.length + hd.length ≤ 1000000 := len_of (r := ma.flatMap M.putM) (by rw [← HA1.out, e2]) ha1
        have HN := Lib.hid hnx
        clear hnx e1 e2 HA1
        have y : wr.cell? ⟨w.heap.size, 5, none⟩ = some (.slice am ma.length cm) := below_keeps HW.out _ _ (HC.out 5 _ rfl)
        go_wp2_with fail
        refine (refNPut_at (ma.length : Int) hd _ HHD).mono ?_
        rintro x w2 ⟨rfl, hb2⟩
        have HW0 := Lib.hid (HW.out.trans (hb2.mono HW.out.size))
        clear hb2 y HW HBW HHD
        go_wp2
        go_loopw [4, 11] (fun s i wr => ∃ (j : Nat) (t : List UInt8), i = .int .i64 j ∧ j ≤ ma.length ∧ s = .string (B t) ∧ Hid (t ++ (ma.drop j).flatMap M.putM = a1) ∧ Below W.heap.size W wr) (fun _ i _ => ma.length - (intOf i).toNat)
        case atStart => exact ⟨0, acc ++ hd, rfl, Nat.zero_le _, rfl, HA2, HW0.out⟩
        case round =>
          obtain ⟨j, t, rfl, hj, rfl, HT, hbw⟩ := hrel
          clear HA2 HW0
          have HW := Lib.hid hbw
          clear hbw
          have HBW := Lib.hid (HB.out.trans (HW.out.mono HB.out.size))
          by_cases hjl : j < ma.length
          · have hj1 : (j : Int) < (ma.length : Int) := by omega
            obtain ⟨b1, o1, rfl, g1, g2⟩ := HXm.out j hjl
            have z1 : wr.cell? ⟨b1, o1 + j * 2, none⟩ = some (.int .i64 ma[j].1) := below_keeps HBW.out _ _ g1
            have z2 : wr.cell? ⟨b1, o1 + j * 2 + 1, none⟩ = some (.int .i64 ma[j].2) := below_keeps HBW.out _ _ g2
            have y : wr.cell? ⟨w.heap.size, 5, none⟩ = some (.slice (some ⟨b1, o1, none⟩) ma.length cm) := below_keeps HW.out _ _ (HC.out 5 _ rfl)
            have hs := HT.out
            rw [flat_drop hjl] at hs
            clear g1 g2
            generalize ma[j] = zz at z1 z2 hs
            obtain ⟨u1, u2⟩ := zz
            dsimp only at z1 z2
            obtain ⟨p, HQ⟩ : ∃ p, Hid (M.putI u1 = p) := ⟨_, Lib.hid rfl⟩
            obtain ⟨p2, HQ2⟩ : ∃ p, Hid (M.putI u2 = p) := ⟨_, Lib.hid rfl⟩
            have e3 : M.putM (u1, u2) = p ++ p2 := by rw [← HQ.out, ← HQ2.out]; rfl
            rw [e3] at hs
            have htp := len_of hs ha1
            rw [List.length_append] at htp
            have HT2 : Hid (t ++ (p ++ p2) ++ (ma.drop (j + 1)).flatMap M.putM = a1) := Lib.hid (by rw [List.append_assoc]; exact hs)
            clear hs HT e3
            have k1 := cat_run (a := t) (c := p) (by omega)
            have k2 := cat_run (a := t ++ p) (c := p2) (by simp only [List.length_append]; omega)
            simp only [List.append_assoc] at k1 k2
            have hS : BoxM W w.heap.size (.slice (some ⟨b1, o1, none⟩) ma.length cm) b1 (o1 + j * 2) (.int .i64 u1) (.int .i64 u2) wr := ⟨y, z1, z2, HW.out⟩
            clear y z1 z2
            unfold BoxM at hS
            go_wp2
            refine wp_region_held_drew (S := fun w' => w'.cell? ⟨w.heap.size, 5, none⟩ = some (.slice (some ⟨b1, o1, none⟩) ma.length cm) ∧ w'.cell? ⟨b1, o1 + j * 2, none⟩ = some (.int .i64 u1) ∧ w'.cell? ⟨b1, o1 + j * 2 + 1, none⟩ = some (.int .i64 u2) ∧ KeptB W w') (by kernel_rfl) ?_ (fun hHeld => ?_)
            · exact boxM_drew hS
            refine take_wanted (i := 0) (v := ?_) rfl (by kernel_rfl) (by kernel_rfl) (by kernel_rfl) (fun _ _ _ h => h) (by rfl) ?_ (by assumption) ?_
            rotate_left
            · intro w hSw
              (try dsimp only at hSw)
              go_simp
              (try with_reducible rfl)
            simp only [Act.put, List.setIfInBounds_toArray, List.set_cons_zero, List.set_cons_succ]
            refine take_wanted (i := 1) (v := ?_) rfl (by kernel_rfl) (by kernel_rfl) (by kernel_rfl) (fun _ _ _ h => h) (by rfl) ?_ (by assumption) ?_
            rotate_left
            · intro w hSw
              (try dsimp only at hSw)
              go_simp
              (try with_reducible rfl)
            simp only [Act.put, List.setIfInBounds_toArray, List.set_cons_zero, List.set_cons_succ]
            refine take_wanted (i := 2) (v := ?_) rfl (by kernel_rfl) (by kernel_rfl) (by kernel_rfl) (fun _ _ _ h => h) (by rfl) ?_ (by assumption) ?_
            rotate_left
            · intro w hSw
              (try dsimp only at hSw)
              go_simp
              (try with_reducible rfl)
            simp only [Act.put, List.setIfInBounds_toArray, List.set_cons_zero, List.set_cons_succ]
            refine take_wanted (i := 3) (v := ?_) rfl (by kernel_rfl) (by kernel_rfl) (by kernel_rfl) (fun _ _ _ h => h) (by rfl) ?_ (by assumption) ?_
            rotate_left
            · intro w hSw
              (try dsimp only at hSw)
              go_simp
              (try with_reducible rfl)
            simp only [Act.put, List.setIfInBounds_toArray, List.set_cons_zero, List.set_cons_succ]
            refine take_wanted (i := 4) (v := ?_) rfl (by kernel_rfl) (by kernel_rfl) (by kernel_rfl) (fun _ _ _ h => h) (by rfl) ?_ (by assumption) ?_
            rotate_left
            · intro w hSw
              (try dsimp only at hSw)
              go_simp
              (try with_reducible rfl)
            simp only [Act.put, List.setIfInBounds_toArray, List.set_cons_zero, List.set_cons_succ]
            refine take_wanted (i := 5) (v := ?_) rfl (by kernel_rfl) (by kernel_rfl) (by kernel_rfl) (fun _ _ _ h => h) (by rfl) ?_ (by assumption) ?_
            rotate_left
            · intro w hSw
              (try dsimp only at hSw)
              go_simp
              (try with_reducible rfl)
            simp only [Act.put, List.setIfInBounds_toArray, List.set_cons_zero, List.set_cons_succ]
            refine take_wanted (i := 6) (v := ?_) rfl (by kernel_rfl) (by kernel_rfl) (by kernel_rfl) (fun _ _ _ h => h) (by rfl) ?_ (by assumption) ?_
            rotate_left
            · intro w hSw
              (try dsimp only at hSw)
              go_simp
              (try with_reducible rfl)
            simp only [Act.put, List.setIfInBounds_toArray, List.set_cons_zero, List.set_cons_succ]
            refine take_wanted (i := 9) (v := ?_) rfl (by kernel_rfl) (by kernel_rfl) (by kernel_rfl) (fun _ _ _ h => h) (by rfl) ?_ (by assumption) ?_
            rotate_left
            · intro w hSw
              (try dsimp only at hSw)
              go_simp
              (try with_reducible rfl)
            simp only [Act.put, List.setIfInBounds_toArray, List.set_cons_zero, List.set_cons_succ]
            refine take_wanted (i := 10) (v := ?_) rfl (by kernel_rfl) (by kernel_rfl) (by kernel_rfl) (fun _ _ _ h => h) (by rfl) ?_ (by assumption) ?_
            rotate_left
            · intro w hSw
              (try dsimp only at hSw)
              go_simp
              (try with_reducible rfl)
            simp only [Act.put, List.setIfInBounds_toArray, List.set_cons_zero, List.set_cons_succ]
            refine take_wanted (i := 11) (v := ?_) rfl (by kernel_rfl) (by kernel_rfl) (by kernel_rfl) (fun _ _ _ h => h) (by rfl) ?_ (by assumption) ?_
            rotate_left
            · intro w hSw
              (try dsimp only at hSw)
              go_simp
              (try with_reducible rfl)
            simp only [Act.put, List.setIfInBounds_toArray, List.set_cons_zero, List.set_cons_succ]
            refine take_wanted (i := 12) (v := ?_) rfl (by kernel_rfl) (by kernel_rfl) (by kernel_rfl) (fun _ _ _ h => h) (by rfl) ?_ (by assumption) ?_
            rotate_left
            · intro w hSw
              (try dsimp only at hSw)
              go_simp
              (try with_reducible rfl)
            simp only [Act.put, List.setIfInBounds_toArray, List.set_cons_zero, List.set_cons_succ]
            refine take_wanted (i := 13) (v := ?_) rfl (by kernel_rfl) (by kernel_rfl) (by kernel_rfl) (fun _ _ _ h => h) (by rfl) ?_ (by assumption) ?_
            rotate_left
            · intro w hSw
              (try dsimp only at hSw)
              go_simp
              (try with_reducible rfl)
            simp only [Act.put, List.setIfInBounds_toArray, List.set_cons_zero, List.set_cons_succ]
            refine take_wanted (i := 14) (v := ?_) rfl (by kernel_rfl) (by kernel_rfl) (by kernel_rfl) (fun _ _ _ h => h) (by rfl) ?_ (by assumption) ?_
            rotate_left
            · intro w hSw
              (try dsimp only at hSw)
              go_simp
              (try with_reducible rfl)
            simp only [Act.put, List.setIfInBounds_toArray, List.set_cons_zero, List.set_cons_succ]
            refine take_only (i := 7) (by kernel_rfl) rfl (by rfl) (fun K hK => ?_)
            go_simp
            go_at_call 24
            refine (refNPut_at u1 p _ HQ).mono ?_
            rintro x w4 ⟨rfl, hb4⟩
            refine hK.out _ _ ?_ (fun hHeld => ?_)
            · exact boxM_call hHeld hb4
            clear hK K
            refine take_wanted (i := 8) (v := ?_) rfl (by kernel_rfl) (by kernel_rfl) (by kernel_rfl) (fun _ _ _ h => h) (by rfl) ?_ (by assumption) ?_
            rotate_left
            · intro w hSw
              (try dsimp only at hSw)
              go_simp
              (try with_reducible rfl)
            simp only [Act.put, List.setIfInBounds_toArray, List.set_cons_zero, List.set_cons_succ]
            refine take_only (i := 15) (by kernel_rfl) rfl (by rfl) (fun K hK => ?_)
            go_simp
            go_at_call 24
            refine (refNPut_at u2 p2 _ HQ2).mono ?_
            rintro x w5 ⟨rfl, hb5⟩
            refine hK.out _ _ ?_ (fun hHeld => ?_)
            · exact boxM_call hHeld hb5
            clear hK K
            refine take_wanted (i := 16) (v := ?_) rfl (by kernel_rfl) (by kernel_rfl) (by kernel_rfl) (fun _ _ _ h => h) (by rfl) ?_ (by assumption) ?_
            rotate_left
            · intro w hSw
              (try dsimp only at hSw)
              go_simp
              (try with_reducible rfl)
            simp only [Act.put, List.setIfInBounds_toArray, List.set_cons_zero, List.set_cons_succ]
            refine take_wanted (i := 17) (v := ?_) rfl (by kernel_rfl) (by kernel_rfl) (by kernel_rfl) (fun _ _ _ h => h) (by rfl) ?_ (by assumption) ?_
            rotate_left
            · intro w hSw
              (try dsimp only at hSw)
              go_simp
              (try with_reducible rfl)
            simp only [Act.put, List.setIfInBounds_toArray, List.set_cons_zero, List.set_cons_succ]
            refine wpAnyH_done (by kernel_rfl) ?_ _
            have HBX := Lib.hid hHeld.2.2.2
            clear hHeld hS k1 k2
            go_wp2
            go_roundw
            case rel => exact ⟨j + 1, t ++ (p ++ p2), by go_num, by omega, rfl, HT2, HBX.out⟩
            case measure => simp [intOf]; omega
          · have hj1 : ¬ (j : Int) < (ma.length : Int) := by omega
            have y : wr.cell? ⟨w.heap.size, 5, none⟩ = some (.slice am ma.length cm) := below_keeps HW.out _ _ (HC.out 5 _ rfl)
            have et := flat_left hjl HT.out
            clear HT
            subst et
            have HBX := HW
            go_wp2
            go_roundw
            case rel => exact ⟨k + 1, a, t, by go_num, rfl, rfl, by omega, HN, HBX.out⟩
            case measure => simp [intOf]; omega
      · have t110 : (((N.bt sh k : Nat) : Int) == 110) = false := by rw [hbt, hc]; rfl
        have t99 : (((N.bt sh k : Nat) : Int) == 99) = false := by rw [hbt, hc]; rfl
        have t100 : (((N.bt sh k : Nat) : Int) == 100) = false := by rw [hbt, hc]; rfl
        have t111 : (((N.bt sh k : Nat) : Int) == 111) = false := by rw [hbt, hc]; rfl
        have t109 : (((N.bt sh k : Nat) : Int) == 109) = false := by rw [hbt, hc]; rfl
        have t101 : (((N.bt sh k : Nat) : Int) == 101) = true := by rw [hbt, hc]; rfl
        have hnx := HP.out.oth hlt hc (by decide)
        clear hbt hc HP
        obtain ⟨p, HQ⟩ : ∃ p, Hid (R.putRow (ensOf en) = p) := ⟨_, Lib.hid rfl⟩
        have e1 : L 101 = p := by rw [← HL.out, ← HQ.out, R.putRow_ok HEN.out]; rfl
        rw [e1] at hnx
        have hak : acc.length + p.length ≤ 1000000 := by have := hnx.len; rw [List.length_append] at this; omega
        have HN := Lib.hid hnx
        clear hnx e1
        have y : wr.cell? ⟨w.heap.size, 6, none⟩ = some (.slice ae en.length ce) := below_keeps HW.out _ _ (HC.out 6 _ rfl)
        go_wp2_with fail
        refine (refPutRow_at en _ p _ (readsR_below HEE.out HBW.out) (by omega) HTEN.out HQ).mono ?_
        rintro x w2 ⟨rfl, hb2⟩
        have HBX := Lib.hid (HW.out.trans (hb2.mono HW.out.size))
        clear hb2 y
        go_wp2
        go_roundw
        case rel => exact ⟨k + 1, a, acc ++ p, by go_num, rfl, rfl, by omega, HN, HBX.out⟩
        case measure => simp [intOf]; omega
      · have t110 : (((N.bt sh k : Nat) : Int) == 110) = false := by rw [hbt, hc]; rfl
        have t99 : (((N.bt sh k : Nat) : Int) == 99) = false := by rw [hbt, hc]; rfl
        have t100 : (((N.bt sh k : Nat) : Int) == 100) = false := by rw [hbt, hc]; rfl
        have t111 : (((N.bt sh k : Nat) : Int) == 111) = false := by rw [hbt, hc]; rfl
        have t109 : (((N.bt sh k : Nat) : Int) == 109) = false := by rw [hbt, hc]; rfl
        have t101 : (((N.bt sh k : Nat) : Int) == 101) = false := by rw [hbt, hc]; rfl
        have t118 : (((N.bt sh k : Nat) : Int) == 118) = true := by rw [hbt, hc]; rfl
        have hnx := HP.out.oth hlt hc (by decide)
        clear hbt hc HP
        have e1 : L 118 = M.putP (.v ev) := by rw [← HL.out]; rfl
        rw [e1] at hnx
        obtain ⟨hd, HHD⟩ : ∃ p, Hid (N.putL (N.held (ev.length : Int)) = p) := ⟨_, Lib.hid rfl⟩
        have e2 : M.putP (.v ev) = hd ++ ev.flatMap E.putE := by rw [← HHD.out, held_len (by omega)]; rfl
        obtain ⟨a1, HA1⟩ : ∃ p, Hid (acc ++ M.putP (.v ev) = p) := ⟨_, Lib.hid rfl⟩
        rw [HA1.out] at hnx
        have ha1 : a1.length ≤ 1000000 := by have := hnx.len; omega
        have HA2 : Hid ((acc ++ hd) ++ (ev.drop 0).flatMap E.putE = a1) := Lib.hid (by rw [← HA1.out, e2]; simp)
        have hak : acc.length + hd.length ≤ 1000000 := len_of (r := ev.flatMap E.putE) (by rw [← HA1.out, e2]) ha1
        have HN := Lib.hid hnx
        clear hnx e1 e2 HA1
        have y : wr.cell? ⟨w.heap.size, 7, none⟩ = some (.slice av ev.length cv) := below_keeps HW.out _ _ (HC.out 7 _ rfl)
        go_wp2_with fail
        refine (refNPut_at (ev.length : Int) hd _ HHD).mono ?_
        rintro x w2 ⟨rfl, hb2⟩
        have HW0 := Lib.hid (HW.out.trans (hb2.mono HW.out.size))
        clear hb2 y HW HBW HHD
        go_wp2
        go_loopw [4, 12] (fun s i wr => ∃ (j : Nat) (t : List UInt8), i = .int .i64 j ∧ j ≤ ev.length ∧ s = .string (B t) ∧ Hid (t ++ (ev.drop j).flatMap E.putE = a1) ∧ Below W.heap.size W wr) (fun _ i _ => ev.length - (intOf i).toNat)
        case atStart => exact ⟨0, acc ++ hd, rfl, Nat.zero_le _, rfl, HA2, HW0.out⟩
        case round =>
          obtain ⟨j, t, rfl, hj, rfl, HT, hbw⟩ := hrel
          clear HA2 HW0
          have HW := Lib.hid hbw
          clear hbw
          have HBW := Lib.hid (HB.out.trans (HW.out.mono HB.out.size))
          by_cases hjl : j < ev.length
          · have hj1 : (j : Int) < (ev.length : Int) := by omega
            obtain ⟨b1, o1, rfl, g1, g2⟩ := HXv.out j hjl
            have z1 : wr.cell? ⟨b1, o1 + j * 2, none⟩ = some (.string (B ev[j].1)) := below_keeps HBW.out _ _ g1
            have z2 : wr.cell? ⟨b1, o1 + j * 2 + 1, none⟩ = some (.string (B ev[j].2)) := below_keeps HBW.out _ _ g2
            have y : wr.cell? ⟨w.heap.size, 7, none⟩ = some (.slice (some ⟨b1, o1, none⟩) ev.length cv) := below_keeps HW.out _ _ (HC.out 7 _ rfl)
            have hs := HT.out
            rw [flat_drop hjl] at hs
            have HTK := Lib.hid (HTEV.out _ (List.getElem_mem hjl))
            have e4 := E.putEv_ok (List.all_eq_true.1 HEV.out _ (List.getElem_mem hjl))
            clear g1 g2
            generalize ev[j] = zz at z1 z2 hs HTK e4
            obtain ⟨p, HQ⟩ : ∃ p, Hid (E.putEv zz = p) := ⟨_, Lib.hid rfl⟩
            rw [← e4, HQ.out] at hs
            have htp := len_of hs ha1
            have HT2 : Hid (t ++ p ++ (ev.drop (j + 1)).flatMap E.putE = a1) := Lib.hid (by rw [List.append_assoc]; exact hs)
            clear hs HT e4
            go_wp2_with fail
            refine (refEPut_at zz p _ HTK.out HQ).mono ?_
            rintro x w3 ⟨rfl, hb3⟩
            have HBX := Lib.hid (HW.out.trans (hb3.mono HW.out.size))
            clear hb3 z1 z2 y
            go_wp2
            go_roundw
            case rel => exact ⟨j + 1, t ++ p, by go_num, by omega, rfl, HT2, HBX.out⟩
            case measure => simp [intOf]; omega
          · have hj1 : ¬ (j : Int) < (ev.length : Int) := by omega
            have y : wr.cell? ⟨w.heap.size, 7, none⟩ = some (.slice av ev.length cv) := below_keeps HW.out _ _ (HC.out 7 _ rfl)
            have et := flat_left hjl HT.out
            clear HT
            subst et
            have HBX := HW
            go_wp2
            go_roundw
            case rel => exact ⟨k + 1, a, t, by go_num, rfl, rfl, by omega, HN, HBX.out⟩
            case measure => simp [intOf]; omega
      · have t110 : (((N.bt sh k : Nat) : Int) == 110) = false := by rw [hbt, hc]; rfl
        have t99 : (((N.bt sh k : Nat) : Int) == 99) = false := by rw [hbt, hc]; rfl
        have t100 : (((N.bt sh k : Nat) : Int) == 100) = false := by rw [hbt, hc]; rfl
        have t111 : (((N.bt sh k : Nat) : Int) == 111) = false := by rw [hbt, hc]; rfl
        have t109 : (((N.bt sh k : Nat) : Int) == 109) = false := by rw [hbt, hc]; rfl
        have t101 : (((N.bt sh k : Nat) : Int) == 101) = false := by rw [hbt, hc]; rfl
        have t118 : (((N.bt sh k : Nat) : Int) == 118) = false := by rw [hbt, hc]; rfl
        have t98 : (((N.bt sh k : Nat) : Int) == 98) = true := by rw [hbt, hc]; rfl
        have hnx := HP.out.oth hlt hc (by decide)
        have e5 : (kb.toNat : Int) = 11 := HSB.out (hc ▸ List.getElem_mem hlt)
        have HFT : Hid (E.fits ⟨bst, bex, bse, bsq, bev⟩ = 0) := Lib.hid (by
          have h := HLT.out
          rw [e5] at h
          simpa [lastT] using h)
        clear hbt hc HP e5
        obtain ⟨p, HQ⟩ : ∃ p, Hid (E.bytes ⟨bst, bex, bse, bsq, bev⟩ = p) := ⟨_, Lib.hid rfl⟩
        have e1 : L 98 = p := by rw [← HL.out, ← HQ.out]; rfl
        rw [e1] at hnx
        have hak : acc.length + p.length ≤ 1000000 := by have := hnx.len; rw [List.length_append] at this; omega
        have HN := Lib.hid hnx
        clear hnx e1
        have y8 : wr.cell? ⟨w.heap.size, 8, none⟩ = some (.string (B bst)) := below_keeps HW.out _ _ (HC.out 8 _ rfl)
        have y9 : wr.cell? ⟨w.heap.size, 9, none⟩ = some (.int .i64 bex) := below_keeps HW.out _ _ (HC.out 9 _ rfl)
        have y10 : wr.cell? ⟨w.heap.size, 10, none⟩ = some (.int .i64 bse) := below_keeps HW.out _ _ (HC.out 10 _ rfl)
        have y11 : wr.cell? ⟨w.heap.size, 11, none⟩ = some (.int .i64 bsq) := below_keeps HW.out _ _ (HC.out 11 _ rfl)
        have y12 : wr.cell? ⟨w.heap.size, 12, none⟩ = some (.slice at_ bev.length ct) := below_keeps HW.out _ _ (HC.out 12 _ rfl)
        go_wp2_with fail
        refine (refPutBat_at ⟨bst, bex, bse, bsq, bev⟩ _ p _ (readsE_below HBT.out HBW.out) HFT.out HQ).mono ?_
        rintro x w2 ⟨rfl, hb2⟩
        have HBX := Lib.hid (HW.out.trans (hb2.mono HW.out.size))
        clear hb2 y8 y9 y10 y11 y12
        go_wp2
        go_roundw
        case rel => exact ⟨k + 1, a, acc ++ p, by go_num, rfl, rfl, by omega, HN, HBX.out⟩
        case measure => simp [intOf]; omega
      · have t110 : (((N.bt sh k : Nat) : Int) == 110) = false := by rw [hbt, hc]; rfl
        have t99 : (((N.bt sh k : Nat) : Int) == 99) = false := by rw [hbt, hc]; rfl
        have t100 : (((N.bt sh k : Nat) : Int) == 100) = false := by rw [hbt, hc]; rfl
        have t111 : (((N.bt sh k : Nat) : Int) == 111) = false := by rw [hbt, hc]; rfl
        have t109 : (((N.bt sh k : Nat) : Int) == 109) = false := by rw [hbt, hc]; rfl
        have t101 : (((N.bt sh k : Nat) : Int) == 101) = false := by rw [hbt, hc]; rfl
        have t118 : (((N.bt sh k : Nat) : Int) == 118) = false := by rw [hbt, hc]; rfl
        have t98 : (((N.bt sh k : Nat) : Int) == 98) = false := by rw [hbt, hc]; rfl
        have t115 : (((N.bt sh k : Nat) : Int) == 115) = true := by rw [hbt, hc]; rfl
        have hnx := HP.out.oth hlt hc (by decide)
        clear hbt hc HP
        obtain ⟨p, HQ⟩ : ∃ p, Hid (N.putT st = p) := ⟨_, Lib.hid rfl⟩
        have e1 : L 115 = p := by rw [← HL.out, ← HQ.out]; rfl
        rw [e1] at hnx
        have hak : acc.length + p.length ≤ 1000000 := by have := hnx.len; rw [List.length_append] at this; omega
        have HN := Lib.hid hnx
        clear hnx e1
        have y : wr.cell? ⟨w.heap.size, 13, none⟩ = some (.string (B st)) := below_keeps HW.out _ _ (HC.out 13 _ rfl)
        go_wp2_with fail
        refine (refPutText_at st p _ HTST.out HQ).mono ?_
        rintro x w2 ⟨rfl, hb2⟩
        have HBX := Lib.hid (HW.out.trans (hb2.mono HW.out.size))
        clear hb2 y
        go_wp2
        go_roundw
        case rel => exact ⟨k + 1, a, acc ++ p, by go_num, rfl, rfl, by omega, HN, HBX.out⟩
        case measure => simp [intOf]; omega
    · have hk1 : ¬ (k : Int) < (sh.length : Int) := by omega
      have et := HP.out.done hlt
      clear HP
      subst et
      go_wp2
      go_ret
      exact ⟨rfl, HBW.out⟩

set_option maxHeartbeats 4000000 in
set_option maxRecDepth 100000 in
theorem refPut7_bad (f : Fl) (w : World) (hr : f.Reads w) (HF : Hid (f.right = false)) :
    Calls Tryz.prog 11 #[f.val] w fun x w' => x = .returned (.string (B [])) ∧ Below w.heap.size w w' := by
  have HRD := Lib.hid hr
  obtain ⟨kind, ns, ch, si, bo, ma, en, ev, ⟨bst, bex, bse, bsq, bev⟩, st, vn, vc, vs, vb, vm, ve, vv, vt⟩ := f
  obtain ⟨⟨an, cn, e1, hxn⟩, ⟨ac, cc, e2, -⟩, ⟨ai, ci, e3, -⟩, ⟨ab, cb, e4, -⟩, ⟨am, cm, e5, -⟩, ⟨ae, ce, e6, -⟩, ⟨av, cv, e7, -⟩, ⟨at_, ct, e8, -⟩, -⟩ := hr
  dsimp only at e1 e2 e3 e4 e5 e6 e7 e8 hxn
  subst e1 e2 e3 e4 e5 e6 e7 e8
  have HXn := Lib.hid hxn
  clear hxn
  go_enter Tryz.func11, Tryz.ntmps11
  go_wp2_with fail
  refine (refRight7_at ⟨kind, ns, ch, si, bo, ma, en, ev, ⟨bst, bex, bse, bsq, bev⟩, st, .slice an ns.length cn, .slice ac ch.length cc, .slice ai si.length ci, .slice ab bo.length cb, .slice am ma.length cm, .slice ae en.length ce, .slice av ev.length cv, .slice at_ bev.length ct⟩ false _ (HRD.out.below ((Below.refl _ w).alloc (Nat.le_refl _) _)) HF).mono ?_
  rintro x W1 ⟨rfl, hb1⟩
  have HB := Lib.hid (below_box hb1)
  clear hb1
  go_wp2
  go_ret
  exact ⟨rfl, HB.out⟩
theorem refPut7_at (f : Fl) (r : List UInt8) (w : World) (hr : f.Reads w) (hcn : cntN (shapeT f.kind) ≤ f.ns.length) (htl : f.right = true → f.bytes.length ≤ 1000000) (H : Hid ((if f.right = true then f.bytes else []) = r)) :
    Calls Tryz.prog 11 #[f.val] w fun x w' => x = .returned (.string (B r)) ∧ Below w.heap.size w w' := by
  rw [← H.out]
  cases hq : f.right
  · rw [if_neg (by decide)]; exact refPut7_bad f w hr (Lib.hid hq)
  · rw [if_pos rfl]; exact refPut7_ok f w hr (Lib.hid hq) hcn (htl hq)
end Go.Proofs.YtljcgpdjhjkciaaGreat
