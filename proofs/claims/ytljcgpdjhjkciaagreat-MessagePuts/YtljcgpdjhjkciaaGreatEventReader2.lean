/-
  The reader of package event: an event's two parts, and the events of a batch.
-/
import Derived.Test.YtljcgpdjhjkciaaGreatEventReader
import Derived.Deep.AppendLies
import Derived.Maps.AppendAt
import Derived.Deep.RegionLaw
namespace Go.Proofs.YtljcgpdjhjkciaaGreat
open Go.RowKit
attribute [local go_sem] ext_Bd ext_Bl ext_Bt toList_B add_B size_B get_Bt

abbrev mV (f g : Nat) : Value := .func (.func f) #[rdP g] #[]
theorem parts_bad1 {l : List UInt8} {c : Nat} (h : N.takeT l 200 = Sum.inr c) : E.parts l = Sum.inr c := K.bind_bad _ h
theorem parts_bad2 {l a r : List UInt8} {c : Nat} (h : N.takeT l 200 = Sum.inl (a, r)) (h2 : N.takeT r 200 = Sum.inr c) : E.parts l = Sum.inr c := (K.bind_ok _ h).trans (K.bind_bad _ h2)
theorem parts_ok {l a r b q : List UInt8} (h : N.takeT l 200 = Sum.inl (a, r)) (h2 : N.takeT r 200 = Sum.inl (b, q)) : E.parts l = Sum.inl ((a, b), q) := (K.bind_ok _ h).trans (K.bind_ok _ h2)
theorem parts_len {l q : List UInt8} {e : E.Ev} (h : E.parts l = Sum.inl (e, q)) : q.length ≤ l.length := by
  obtain ⟨a, r, h1, h2⟩ := K.bind_inv h
  obtain ⟨b, t, h3, h4⟩ := K.bind_inv h2
  cases h4
  have := takeT_len h1
  have := takeT_len h3
  omega

theorem cell_of_block {w w' : World} {g gs j : Nat} {cs : Array Value} {t : TypeId} (h : w.heap[gs]? = some (.cells cs t (0, 0))) (hg : w.grownBy w' (some g)) (hne : gs ≠ g) : w'.cell? ⟨gs, j, none⟩ = cs[j]? := by
  have h2 : w'.heap[gs]? = some (.cells cs t (0, 0)) := (hg.block gs (Array.getElem?_eq_some_iff.1 h).1 (by simpa using hne)).trans h
  simp [World.cell?, h2]

def pairFs (k : Nat) : Nat := if k = 0 then 95 else 96
def PairS (w : World) (g : Nat) (left k d st : List UInt8) (ex se sq : Int) (v : Value) (n : Nat) (w' : World) : Prop :=
  w.grownBy w' (some g) ∧ match n with
    | 0 => RdAt w' g left k d st ex se sq v
    | 1 => ∃ a r, N.takeT left 200 = Sum.inl (a, r) ∧ RdAt w' g r a d st ex se sq v
    | _ => ∃ a r b q, N.takeT left 200 = Sum.inl (a, r) ∧ N.takeT r 200 = Sum.inl (b, q) ∧ RdAt w' g q a b st ex se sq v
theorem rd_pair {w : World} {g gs : Nat} {left k d st : List UInt8} {ex se sq : Int} {v : Value} {t : TypeId} (h : RdAt w g left k d st ex se sq v) (hl : left.length ≤ 1000000)
    (hgs : w.heap[gs]? = some (.cells #[mV 95 g, mV 96 g] t (0, 0))) (hne : gs ≠ g) :
    Calls Tryz.prog 76 #[.slice (some ⟨gs, 0, none⟩) 2 2] w fun x w' => w.grownBy w' (some g) ∧
      ((∃ e r, E.parts left = Sum.inl (e, r) ∧ x = .returned (.int .i64 0) ∧ RdAt w' g r e.1 e.2 st ex se sq v) ∨ ∃ c : Nat, 0 < c ∧ E.parts left = Sum.inr c ∧ x = .returned (.int .i64 c)) := by
  refine (inOrder_run gs 2 g pairFs (PairS w g left k d st ex se sq v) (fun c w' => w.grownBy w' (some g) ∧ E.parts left = Sum.inr c) (by omega) ?_ ?_ ?_ w ?_).mono ?_
  · intro n hn
    match n, hn with
    | 0, _ => exact .inl rfl
    | 1, _ => exact .inr (.inl rfl)
  · intro n wr hn hs
    rw [cell_of_block hgs hs.1 hne]
    match n, hn with
    | 0, _ => rfl
    | 1, _ => rfl
  · intro n wr hn hs
    match n, hn, hs with
    | 0, _, hs =>
      refine (rd_kind hs.2 hl).mono ?_
      rintro x w' ⟨hg, ⟨a, r, ht, rfl, hr⟩ | ⟨c, ht, rfl⟩⟩
      · exact .inl ⟨rfl, hs.1.trans hg, a, r, ht, hr⟩
      · exact .inr ⟨c, K.txt_errs _ _ _ ht, rfl, hs.1.trans hg, parts_bad1 ht⟩
    | 1, _, hs =>
      obtain ⟨hg0, a, r, ht0, hr0⟩ := hs
      refine (rd_data hr0 (by have := takeT_len ht0; omega)).mono ?_
      rintro x w' ⟨hg, ⟨b, q, ht, rfl, hr⟩ | ⟨c, ht, rfl⟩⟩
      · exact .inl ⟨rfl, hg0.trans hg, a, r, b, q, ht0, ht, hr⟩
      · exact .inr ⟨c, K.txt_errs _ _ _ ht, rfl, hg0.trans hg, parts_bad2 ht0 ht⟩
  · exact ⟨⟨rfl, rfl, rfl, Nat.le_refl _, fun _ _ _ => rfl⟩, h⟩
  · rintro x w' (⟨rfl, hg, a, r, b, q, h1, h2, hr⟩ | ⟨c, hc, rfl, hg, he⟩)
    · exact ⟨hg, .inl ⟨(a, b), q, parts_ok h1 h2, rfl, hr⟩⟩
    · exact ⟨hg, .inr ⟨c, hc, he, rfl⟩⟩

/-- The cells of events that lie in a row. -/
def evCells (evs : List E.Ev) : List Value := evs.flatMap fun e => [.string (B e.1), .string (B e.2)]
theorem evCells_len : ∀ (evs : List E.Ev), (evCells evs).length = evs.length * 2
  | [] => rfl
  | e :: evs => by
    have h := evCells_len evs
    unfold evCells at h ⊢
    rw [List.flatMap_cons, List.length_append, h]
    simp only [List.length_cons, List.length_nil]
    omega
theorem evCells_snoc (evs : List E.Ev) (e : E.Ev) : evCells (evs ++ [e]) = evCells evs ++ [.string (B e.1), .string (B e.2)] := by simp [evCells]
theorem evCells_get : ∀ (evs : List E.Ev) (i : Nat) (h : i < evs.length), (evCells evs)[i * 2]? = some (.string (B evs[i].1)) ∧ (evCells evs)[i * 2 + 1]? = some (.string (B evs[i].2))
  | e :: evs, 0, _ => ⟨rfl, rfl⟩
  | e :: evs, i + 1, h => by
    have ih := evCells_get evs i (by simpa using h)
    have e1 : evCells (e :: evs) = .string (B e.1) :: .string (B e.2) :: evCells evs := by simp [evCells]
    rw [e1, show (i + 1) * 2 = i * 2 + 1 + 1 by omega]
    exact ih
theorem readsE_own {w : World} {base : Nat} {t : TypeId} {v : Value} {evs : List E.Ev} (h : w.ownsRow base t 2 v evs.length (evCells evs)) : ReadsE w v evs := by
  rcases h.2 with ⟨rfl, h0⟩ | ⟨g, cap, cur, rfl, _, _, hcap, _⟩
  · exact ⟨none, 0, by rw [h0], by omega, fun _ => rfl, fun i hi => by omega⟩
  · refine ⟨_, cap, rfl, hcap, fun e => (by cases e), fun i hi => ⟨g, 0, rfl, ?_, ?_⟩⟩
    · rw [Nat.zero_add, h.cellAt (i * 2) (by omega)]; exact (evCells_get evs i hi).1
    · rw [Nat.zero_add, h.cellAt (i * 2 + 1) (by omega)]; exact (evCells_get evs i hi).2

/-- How many there are, and so many events. -/
def countEvs (l : List UInt8) : K.Rd (List E.Ev) := K.bind (N.takeL l) fun m r => if 8 < m then Sum.inr 4 else K.takeN E.parts m r
theorem countEvs_bad {l : List UInt8} {c : Nat} (h : N.takeL l = Sum.inr c) : countEvs l = Sum.inr c := K.bind_bad _ h
theorem countEvs_long {l r : List UInt8} {m : Nat} (h : N.takeL l = Sum.inl (m, r)) (h8 : 8 < m) : countEvs l = Sum.inr 4 := (K.bind_ok _ h).trans (if_pos h8)
theorem countEvs_ok {l r : List UInt8} {m : Nat} (h : N.takeL l = Sum.inl (m, r)) (h8 : ¬ 8 < m) : countEvs l = K.takeN E.parts m r := (K.bind_ok _ h).trans (if_neg h8)

/-- Where the events have come to: evs are taken, j are left to be taken of rest. -/
def Evs (all : K.Rd (List E.Ev)) (evs : List E.Ev) (j : Nat) (rest : List UInt8) : Prop := all = K.bind (K.takeN E.parts j rest) fun es q => Sum.inl (evs ++ es, q)
theorem Evs.start (m : Nat) (r : List UInt8) : Evs (K.takeN E.parts m r) [] m r := by
  unfold Evs
  rcases K.cases (K.takeN E.parts m r) with ⟨e, h⟩ | ⟨a, q, h⟩ <;> rw [h] <;> rfl
theorem Evs.bad {all : K.Rd (List E.Ev)} {evs : List E.Ev} {j : Nat} {rest : List UInt8} {c : Nat} (h : Evs all evs (j + 1) rest) (hp : E.parts rest = Sum.inr c) : all = Sum.inr c := by
  rw [h]
  show K.bind (K.bind (E.parts rest) _) _ = _
  rw [hp]; rfl
theorem Evs.step {all : K.Rd (List E.Ev)} {evs : List E.Ev} {j : Nat} {rest r : List UInt8} {e : E.Ev} (h : Evs all evs (j + 1) rest) (hp : E.parts rest = Sum.inl (e, r)) : Evs all (evs ++ [e]) j r := by
  unfold Evs at h ⊢
  rw [h]
  show K.bind (K.bind (E.parts rest) _) _ = _
  rw [hp]
  show K.bind (K.bind (K.takeN E.parts j r) _) _ = _
  rcases K.cases (K.takeN E.parts j r) with ⟨c, h⟩ | ⟨a, q, h⟩
  · rw [h]; rfl
  · rw [h]
    show Sum.inl (evs ++ (e :: a), q) = Sum.inl ((evs ++ [e]) ++ a, q)
    rw [List.append_assoc]; rfl
theorem Evs.done {all : K.Rd (List E.Ev)} {evs : List E.Ev} {rest : List UInt8} (h : Evs all evs 0 rest) : all = Sum.inl (evs, rest) := by
  rw [h]
  show Sum.inl (evs ++ [], rest) = _
  rw [List.append_nil]

theorem Tryz.infoEv : (Tryz.prog.info? 55).map (fun i => (i.zero, i.size, i.bytes)) = some (some (.agg #[.string ⟨#[]⟩, .string ⟨#[]⟩]), 2, 32) := by kernel_rfl

structure EvAt (w : World) (g : Nat) (st : List UInt8) (ex se sq : Int) (all : K.Rd (List E.Ev)) (m k : Nat) (wr : World) (evs : List E.Ev) (rest kk dd : List UInt8) (v : Value) : Prop where
  len : evs.length = k
  come : Evs all evs (m - k) rest
  small : rest.length ≤ 1000000
  rd : RdAt wr g rest kk dd st ex se sq v
  own : wr.ownsRow w.heap.size 55 2 v k (evCells evs)
  grown : w.grownBy wr (some g)

theorem grown_drew {w w' : World} {row : Option Nat} (h : w.grownBy w' row) : w.grownBy w'.drew row := ⟨h.os, h.tape, h.output, h.size, h.block⟩
theorem own_ne {w : World} {base g : Nat} {t : TypeId} {size n : Nat} {v : Value} {xs : List Value} (h : w.ownsRow base t size v n xs) (hg : g < base) : some g ≠ v.ownBlock := fun e => by have := (h.lt g e.symm).1; omega

set_option maxHeartbeats 4000000 in
set_option maxRecDepth 100000 in
theorem rd_events {w : World} {g : Nat} {left k d st : List UInt8} {ex se sq : Int} (h : RdAt w g left k d st ex se sq (.slice none 0 0)) (hl : left.length ≤ 1000000) :
    Calls Tryz.prog 81 #[rdP g] w fun x w' => w.grownBy w' (some g) ∧
      ((∃ evs r v, countEvs left = Sum.inl (evs, r) ∧ x = .returned (.int .i64 0) ∧ (∃ kk dd, RdAt w' g r kk dd st ex se sq v) ∧ w'.ownsRow w.heap.size 55 2 v evs.length (evCells evs)) ∨
        ∃ c : Nat, 0 < c ∧ countEvs left = Sum.inr c ∧ x = .returned (.int .i64 c)) := by
  obtain ⟨i0, hi, hz0, hz1, hz2⟩ := info_parts Tryz.infoEv
  have hmf : ∀ (fn : Fn) (first cap : Array Value) (w : World), (Instr.makeFunc fn first cap).run Tryz.prog w = .ok (.func fn first cap) w := fun _ _ _ _ => rfl
  obtain ⟨c0, -⟩ := h.cells
  have HG0 := Lib.hid h.lt
  have HC := Lib.hid h
  clear h
  go_enter Tryz.func81, Tryz.ntmps81
  go_wp2_with fail
  refine (Take_l left w (by omega)).mono ?_
  rintro x w1 ⟨rfl, hq⟩
  have h1 := HC.out.quiet hq
  have HG := Lib.hid (grown_quiet (row := some g) hq)
  have H1 := Lib.hid h1
  have hws : w1.heap.size = w.heap.size := by obtain ⟨n, rfl⟩ := hq; rfl
  clear hq c0
  obtain ⟨c0, -⟩ := h1.cells
  have f0 := h1.loose 0
  clear h1
  rcases K.cases (N.takeL left) with ⟨e, ht⟩ | ⟨m, r, ht⟩
  · have HT := Lib.hid (countEvs_bad ht)
    have hpos := K.num_errs left e ht
    have hei : ((e : Int) == 0) = false := beq_eq_false_iff_ne.2 (by omega)
    have hen : ¬ e = 0 := by omega
    rw [ht]
    clear ht
    rw [show tkRes (Sum.inr e) = _ from tkRes_bad e]
    go_wp2
    go_ret
    exact ⟨HG.out, .inr ⟨e, hpos, HT.out, rfl⟩⟩
  by_cases h8 : 8 < m
  · have HT := Lib.hid (countEvs_long ht h8)
    have h8i : (8 : Int) < m := by omega
    rw [ht]
    clear ht
    rw [show tkRes (Sum.inl (m, r)) = _ from tkRes_ok m r]
    go_wp2
    go_ret
    exact ⟨HG.out, .inr ⟨4, by omega, HT.out, rfl⟩⟩
  have hrl := takeL_len ht
  have HT := Lib.hid (countEvs_ok ht h8)
  have h8i : ¬ (8 : Int) < m := by omega
  rw [ht]
  clear ht
  rw [show tkRes (Sum.inl (m, r)) = _ from tkRes_ok m r]
  have HST : Hid (EvAt w g st ex se sq (countEvs left) m 0 (w1.setCell ⟨g, 0, none⟩ (.string (B r))) [] r k d (.slice none 0 0)) := Lib.hid
    ⟨rfl, by rw [HT.out]; exact Evs.start m r, by omega, H1.out.set0 r, World.ownsRow_nil _ _ _ _, grown_set HG.out 0 _⟩
  clear HG H1
  go_wp2
  go_loopw [28] (fun i wr => ∃ j : Nat, i = .int .i64 j ∧ j ≤ m ∧ ∃ evs rest kk dd v, EvAt w g st ex se sq (countEvs left) m j wr evs rest kk dd v) (fun i _ => m - (intOf i).toNat)
  case atStart => exact ⟨0, rfl, Nat.zero_le _, _, _, _, _, _, HST.out⟩
  case round =>
    obtain ⟨j, rfl, hj, evs, rest, kk, dd, v, hat⟩ := hrel
    have HAT := Lib.hid hat
    clear hat HST c0 f0
    by_cases hlt : j < m
    · have hk1 : (j : Int) < (m : Int) := by omega
      have hlt2 := HAT.out.rd.lt
      have HRA := Lib.hid (HAT.out.rd.kept (World.grownBy_alloc wr (.cells #[mV 95 g, mV 96 g] 164) none) (by simp))
      go_wp2_with fail
      refine (rd_pair (gs := wr.heap.size) HRA.out HAT.out.small (World.alloc_heap_new wr _) (by omega)).mono ?_
      rintro x w2 ⟨hg2, ⟨e, r2, hp, rfl, hr2⟩ | ⟨c, hc, hp, rfl⟩⟩
      · have hbase : w.heap.size ≤ wr.heap.size := HAT.out.grown.size
        have hown2 : w2.ownsRow w.heap.size 55 2 v j (evCells evs) := (HAT.out.own.alloc _).kept hg2 (.inr (own_ne HAT.out.own HG0.out).symm)
        have hgw2 : w.grownBy w2 (some g) := (HAT.out.grown.trans (World.grownBy_alloc wr _ _)).trans hg2
        have HOWN2 := Lib.hid hown2
        have HGW2 := Lib.hid hgw2
        have HR2 := Lib.hid hr2
        have HNX := Lib.hid (Evs.step (j := m - (j + 1)) (by have := HAT.out.come; rwa [show m - j = m - (j + 1) + 1 by omega] at this) hp)
        have hr2l := parts_len hp
        have hsm := HAT.out.small
        have hel := HAT.out.len
        have hsz2 : w.heap.size ≤ w2.heap.size := hgw2.size
        have HRA2 := Lib.hid (hr2.kept (World.grownBy_alloc w2 (.cells #[.string (B e.1), .string (B e.2)] 55) none) (by simp))
        have hnv := own_ne hown2 HG0.out
        have HNV := Lib.hid hnv
        obtain ⟨-, c1, c2, -, -, -, -, c7⟩ := hr2.cells
        have hnew := World.new_ne w2 ⟨g, 7, none⟩ c7
        have hj8 : j ≤ 8 := by omega
        clear hg2 hp hr2 HAT HRA hgw2 hnv HC
        go_wp2
        have c7a := HRA2.out.cells.2.2.2.2.2.2.2
        go_region_law
          ((refine step_append_lies _ (by rfl) _ _ _ (by rfl) w.heap.size 55 i0 _ 2 32 Tryz.underlying26 hi hz0 hz1 hz2 rfl (by omega) v j (evCells evs) (by rfl) ((hown2.alloc _).drew)
              ⟨w2.heap.size, 0, none⟩ 1 1 [.string (B e.1), .string (B e.2)] (by rfl) (by rfl) (World.news_of_block (cs := #[.string (B e.1), .string (B e.2)]) (t := 55) (fr := (0, 0)) (heap_alloc_new w2 _)) (by simp [Value.oneCell'])
              (by omega) (by unfold maxLen; omega) (by omega) (by simp; omega) (w2.heap.size + 1) (by simp) ?_; intro gg cap w3 hown3 hgrow hat3 hlt3; have hr3 := RdAt.kept (w := (w2.alloc (.cells #[.string (B e.1), .string (B e.2)] 55)).drew) HRA2.out hgrow HNV.out; have c7b := hr3.cells.2.2.2.2.2.2.2; have f7b := hr3.loose 7))
        all_goals
          have hgw3 : w.grownBy w3 (some g) := ((grown_drew (HGW2.out.trans (World.grownBy_alloc w2 (.cells #[.string (B e.1), .string (B e.2)] 55) _))).andThen (b' := (w2.alloc (.cells #[.string (B e.1), .string (B e.2)] 55)).drew) hgrow fun b hb => .inl (HOWN2.out.lt b hb).1)
          have HN : Hid (EvAt w g st ex se sq (countEvs left) m (j + 1) (w3.setCell ⟨g, 7, none⟩ (.slice (some ⟨gg, 0, none⟩) (j + 1) cap)) (evs ++ [e]) r2 e.1 e.2 (.slice (some ⟨gg, 0, none⟩) (j + 1) cap)) := Lib.hid
            ⟨by rw [List.length_append, hel]; rfl, HNX.out, by omega, hr3.set7 _, by rw [evCells_snoc]; exact hown3.kept (Lib.grownBy_setCell w3 g 7 _) (.inr (own_ne hown3 HG0.out).symm), grown_set hgw3 7 _⟩
          clear hgw3 hgrow hat3 hlt3 hr3 hown3
          go_wp2
          go_roundw
          case rel => exact ⟨j + 1, by go_num, by omega, _, _, _, _, _, HN.out⟩
          case measure => simp [intOf]; omega
      · have HE := Lib.hid (Evs.bad (j := m - (j + 1)) (by have := HAT.out.come; rwa [show m - j = m - (j + 1) + 1 by omega] at this) hp)
        have HGW := Lib.hid ((HAT.out.grown.trans (World.grownBy_alloc wr _ _)).trans hg2)
        have hci : ((c : Int) == 0) = false := beq_eq_false_iff_ne.2 (by omega)
        have hcn : ¬ c = 0 := by omega
        clear hg2 hp
        go_wp2
        go_ret
        exact ⟨HGW.out, .inr ⟨c, hc, HE.out, rfl⟩⟩
    · have hjm : j = m := by omega
      subst hjm
      have hcm := HAT.out.come
      rw [Nat.sub_self] at hcm
      have HE := Lib.hid hcm.done
      have HL := Lib.hid HAT.out.len
      clear hcm
      go_wp2
      go_ret
      exact ⟨HAT.out.grown, .inl ⟨evs, rest, v, HE.out, rfl, ⟨kk, dd, HAT.out.rd⟩, by rw [HL.out]; exact HAT.out.own⟩⟩
end Go.Proofs.YtljcgpdjhjkciaaGreat
