/-
  Own texts, joined: EventReader2 EventReader3 EventReader4 EventRow RecordArgs RecordForce RecordMarks RecordRight RecordPlain RecordRowE RecordClos RecordFollows RecordSlice RecordRef RecordTakeBat SegArgs
-/
import Derived.Test.YtmfhipjceeijmaaGreatDoorBun26
import Derived.Deep.AppendLies
import Derived.Maps.AppendAt
import Derived.Deep.RegionLaw
import Derived.Test.YtmfhipjceeijmaaGreatDoorBun4
import Derived.Test.YtmfhipjceeijmaaGreatDoorBun22
import Derived.Deep.RegionHeld3
import Derived.Test.YtmfhipjceeijmaaGreatDoorBun12

/-
  The reader of package event: an event's two parts, and the events of a batch.
-/
namespace Go.Proofs.YtmfhipjceeijmaaGreatDoor
open Go.RowKit
attribute [local go_sem] ext_Bd ext_Bl ext_Bt toList_B add_B size_B get_Bt

abbrev mV (f g : Nat) : Value := .func (.func f) #[rdP g] #[]
theorem parts_bad1 {l : List UInt8} {c : Nat} (h : N.takeT l 200 = Sum.inr c) : E.parts l = Sum.inr c := K.bind_bad _ h
theorem parts_bad2 {l a r : List UInt8} {c : Nat} (h : N.takeT l 200 = Sum.inl (a, r)) (h2 : N.takeT r 200 = Sum.inr c) : E.parts l = Sum.inr c := (K.bind_ok _ h).trans (K.bind_bad _ h2)
theorem parts_ok {l a r b q : List UInt8} (h : N.takeT l 200 = Sum.inl (a, r)) (h2 : N.takeT r 200 = Sum.inl (b, q)) : E.parts l = Sum.inl ((a, b), q) := (K.bind_ok _ h).trans (K.bind_ok _ h2)
theorem parts_len {l q : List UInt8} {e : E.Ev} (h : E.parts l = Sum.inl (e, q)) : q.length ≤ l.length := by
  obtain ⟨a, r, h1, h2⟩ := K.bind_inv h
  obtain ⟨b, t, h3, h4⟩ := K.bind_inv h2
  cases h4
  have := takeT_len h1
  have := takeT_len h3
  omega

theorem cell_of_block {w w' : World} {g gs j : Nat} {cs : Array Value} {t : TypeId} (h : w.heap[gs]? = some (.cells cs t (0, 0))) (hg : w.grownBy w' (some g)) (hne : gs ≠ g) : w'.cell? ⟨gs, j, none⟩ = cs[j]? := by
  have h2 : w'.heap[gs]? = some (.cells cs t (0, 0)) := (hg.block gs (Array.getElem?_eq_some_iff.1 h).1 (by simpa using hne)).trans h
  simp [World.cell?, h2]

def pairFs (k : Nat) : Nat := if k = 0 then 196 else 197
def PairS (w : World) (g : Nat) (left k d st : List UInt8) (ex se sq : Int) (v : Value) (n : Nat) (w' : World) : Prop :=
  w.grownBy w' (some g) ∧ match n with
    | 0 => RdAt w' g left k d st ex se sq v
    | 1 => ∃ a r, N.takeT left 200 = Sum.inl (a, r) ∧ RdAt w' g r a d st ex se sq v
    | _ => ∃ a r b q, N.takeT left 200 = Sum.inl (a, r) ∧ N.takeT r 200 = Sum.inl (b, q) ∧ RdAt w' g q a b st ex se sq v
theorem rd_pair {w : World} {g gs : Nat} {left k d st : List UInt8} {ex se sq : Int} {v : Value} {t : TypeId} (h : RdAt w g left k d st ex se sq v) (hl : left.length ≤ 1000000)
    (hgs : w.heap[gs]? = some (.cells #[mV 196 g, mV 197 g] t (0, 0))) (hne : gs ≠ g) :
    Calls Tryz.prog 168 #[.slice (some ⟨gs, 0, none⟩) 2 2] w fun x w' => w.grownBy w' (some g) ∧
      ((∃ e r, E.parts left = Sum.inl (e, r) ∧ x = .returned (.int .i64 0) ∧ RdAt w' g r e.1 e.2 st ex se sq v) ∨ ∃ c : Nat, 0 < c ∧ E.parts left = Sum.inr c ∧ x = .returned (.int .i64 c)) := by
  refine (inOrder_run gs 2 g pairFs (PairS w g left k d st ex se sq v) (fun c w' => w.grownBy w' (some g) ∧ E.parts left = Sum.inr c) (by omega) ?_ ?_ ?_ w ?_).mono ?_
  · intro n hn
    match n, hn with
    | 0, _ => exact .inl rfl
    | 1, _ => exact .inr (.inl rfl)
  · intro n wr hn hs
    rw [cell_of_block hgs hs.1 hne]
    match n, hn with
    | 0, _ => rfl
    | 1, _ => rfl
  · intro n wr hn hs
    match n, hn, hs with
    | 0, _, hs =>
      refine (rd_kind hs.2 hl).mono ?_
      rintro x w' ⟨hg, ⟨a, r, ht, rfl, hr⟩ | ⟨c, ht, rfl⟩⟩
      · exact .inl ⟨rfl, hs.1.trans hg, a, r, ht, hr⟩
      · exact .inr ⟨c, K.txt_errs _ _ _ ht, rfl, hs.1.trans hg, parts_bad1 ht⟩
    | 1, _, hs =>
      obtain ⟨hg0, a, r, ht0, hr0⟩ := hs
      refine (rd_data hr0 (by have := takeT_len ht0; omega)).mono ?_
      rintro x w' ⟨hg, ⟨b, q, ht, rfl, hr⟩ | ⟨c, ht, rfl⟩⟩
      · exact .inl ⟨rfl, hg0.trans hg, a, r, b, q, ht0, ht, hr⟩
      · exact .inr ⟨c, K.txt_errs _ _ _ ht, rfl, hg0.trans hg, parts_bad2 ht0 ht⟩
  · exact ⟨⟨rfl, rfl, rfl, Nat.le_refl _, fun _ _ _ => rfl⟩, h⟩
  · rintro x w' (⟨rfl, hg, a, r, b, q, h1, h2, hr⟩ | ⟨c, hc, rfl, hg, he⟩)
    · exact ⟨hg, .inl ⟨(a, b), q, parts_ok h1 h2, rfl, hr⟩⟩
    · exact ⟨hg, .inr ⟨c, hc, he, rfl⟩⟩

/-- The cells of events that lie in a row. -/
def evCells (evs : List E.Ev) : List Value := evs.flatMap fun e => [.string (B e.1), .string (B e.2)]
theorem evCells_len : ∀ (evs : List E.Ev), (evCells evs).length = evs.length * 2
  | [] => rfl
  | e :: evs => by
    have h := evCells_len evs
    unfold evCells at h ⊢
    rw [List.flatMap_cons, List.length_append, h]
    simp only [List.length_cons, List.length_nil]
    omega
theorem evCells_snoc (evs : List E.Ev) (e : E.Ev) : evCells (evs ++ [e]) = evCells evs ++ [.string (B e.1), .string (B e.2)] := by simp [evCells]
theorem evCells_get : ∀ (evs : List E.Ev) (i : Nat) (h : i < evs.length), (evCells evs)[i * 2]? = some (.string (B evs[i].1)) ∧ (evCells evs)[i * 2 + 1]? = some (.string (B evs[i].2))
  | e :: evs, 0, _ => ⟨rfl, rfl⟩
  | e :: evs, i + 1, h => by
    have ih := evCells_get evs i (by simpa using h)
    have e1 : evCells (e :: evs) = .string (B e.1) :: .string (B e.2) :: evCells evs := by simp [evCells]
    rw [e1, show (i + 1) * 2 = i * 2 + 1 + 1 by omega]
    exact ih
theorem readsE_own {w : World} {base : Nat} {t : TypeId} {v : Value} {evs : List E.Ev} (h : w.ownsRow base t 2 v evs.length (evCells evs)) : ReadsE w v evs := by
  rcases h.2 with ⟨rfl, h0⟩ | ⟨g, cap, cur, rfl, _, _, hcap, _⟩
  · exact ⟨none, 0, by rw [h0], by omega, fun _ => rfl, fun i hi => by omega⟩
  · refine ⟨_, cap, rfl, hcap, fun e => (by cases e), fun i hi => ⟨g, 0, rfl, ?_, ?_⟩⟩
    · rw [Nat.zero_add, h.cellAt (i * 2) (by omega)]; exact (evCells_get evs i hi).1
    · rw [Nat.zero_add, h.cellAt (i * 2 + 1) (by omega)]; exact (evCells_get evs i hi).2

/-- How many there are, and so many events. -/
def countEvs (l : List UInt8) : K.Rd (List E.Ev) := K.bind (N.takeL l) fun m r => if 8 < m then Sum.inr 4 else K.takeN E.parts m r
theorem countEvs_bad {l : List UInt8} {c : Nat} (h : N.takeL l = Sum.inr c) : countEvs l = Sum.inr c := K.bind_bad _ h
theorem countEvs_long {l r : List UInt8} {m : Nat} (h : N.takeL l = Sum.inl (m, r)) (h8 : 8 < m) : countEvs l = Sum.inr 4 := (K.bind_ok _ h).trans (if_pos h8)
theorem countEvs_ok {l r : List UInt8} {m : Nat} (h : N.takeL l = Sum.inl (m, r)) (h8 : ¬ 8 < m) : countEvs l = K.takeN E.parts m r := (K.bind_ok _ h).trans (if_neg h8)

/-- Where the events have come to: evs are taken, j are left to be taken of rest. -/
def Evs (all : K.Rd (List E.Ev)) (evs : List E.Ev) (j : Nat) (rest : List UInt8) : Prop := all = K.bind (K.takeN E.parts j rest) fun es q => Sum.inl (evs ++ es, q)
theorem Evs.start (m : Nat) (r : List UInt8) : Evs (K.takeN E.parts m r) [] m r := by
  unfold Evs
  rcases K.cases (K.takeN E.parts m r) with ⟨e, h⟩ | ⟨a, q, h⟩ <;> rw [h] <;> rfl
theorem Evs.bad {all : K.Rd (List E.Ev)} {evs : List E.Ev} {j : Nat} {rest : List UInt8} {c : Nat} (h : Evs all evs (j + 1) rest) (hp : E.parts rest = Sum.inr c) : all = Sum.inr c := by
  rw [h]
  show K.bind (K.bind (E.parts rest) _) _ = _
  rw [hp]; rfl
theorem Evs.step {all : K.Rd (List E.Ev)} {evs : List E.Ev} {j : Nat} {rest r : List UInt8} {e : E.Ev} (h : Evs all evs (j + 1) rest) (hp : E.parts rest = Sum.inl (e, r)) : Evs all (evs ++ [e]) j r := by
  unfold Evs at h ⊢
  rw [h]
  show K.bind (K.bind (E.parts rest) _) _ = _
  rw [hp]
  show K.bind (K.bind (K.takeN E.parts j r) _) _ = _
  rcases K.cases (K.takeN E.parts j r) with ⟨c, h⟩ | ⟨a, q, h⟩
  · rw [h]; rfl
  · rw [h]
    show Sum.inl (evs ++ (e :: a), q) = Sum.inl ((evs ++ [e]) ++ a, q)
    rw [List.append_assoc]; rfl
theorem Evs.done {all : K.Rd (List E.Ev)} {evs : List E.Ev} {rest : List UInt8} (h : Evs all evs 0 rest) : all = Sum.inl (evs, rest) := by
  rw [h]
  show Sum.inl (evs ++ [], rest) = _
  rw [List.append_nil]

theorem Tryz.infoEv : (Tryz.prog.info? 92).map (fun i => (i.zero, i.size, i.bytes)) = some (some (.agg #[.string ⟨#[]⟩, .string ⟨#[]⟩]), 2, 32) := by kernel_rfl

structure EvAt (w : World) (g : Nat) (st : List UInt8) (ex se sq : Int) (all : K.Rd (List E.Ev)) (m k : Nat) (wr : World) (evs : List E.Ev) (rest kk dd : List UInt8) (v : Value) : Prop where
  len : evs.length = k
  come : Evs all evs (m - k) rest
  small : rest.length ≤ 1000000
  rd : RdAt wr g rest kk dd st ex se sq v
  own : wr.ownsRow w.heap.size 92 2 v k (evCells evs)
  grown : w.grownBy wr (some g)

theorem grown_drew {w w' : World} {row : Option Nat} (h : w.grownBy w' row) : w.grownBy w'.drew row := ⟨h.os, h.tape, h.output, h.size, h.block⟩
theorem own_ne {w : World} {base g : Nat} {t : TypeId} {size n : Nat} {v : Value} {xs : List Value} (h : w.ownsRow base t size v n xs) (hg : g < base) : some g ≠ v.ownBlock := fun e => by have := (h.lt g e.symm).1; omega

set_option maxHeartbeats 4000000 in
set_option maxRecDepth 100000 in
theorem rd_events {w : World} {g : Nat} {left k d st : List UInt8} {ex se sq : Int} (h : RdAt w g left k d st ex se sq (.slice none 0 0)) (hl : left.length ≤ 1000000) :
    Calls Tryz.prog 173 #[rdP g] w fun x w' => w.grownBy w' (some g) ∧
      ((∃ evs r v, countEvs left = Sum.inl (evs, r) ∧ x = .returned (.int .i64 0) ∧ (∃ kk dd, RdAt w' g r kk dd st ex se sq v) ∧ w'.ownsRow w.heap.size 92 2 v evs.length (evCells evs)) ∨
        ∃ c : Nat, 0 < c ∧ countEvs left = Sum.inr c ∧ x = .returned (.int .i64 c)) := by
  obtain ⟨i0, hi, hz0, hz1, hz2⟩ := info_parts Tryz.infoEv
  have hmf : ∀ (fn : Fn) (first cap : Array Value) (w : World), (Instr.makeFunc fn first cap).run Tryz.prog w = .ok (.func fn first cap) w := fun _ _ _ _ => rfl
  obtain ⟨c0, -⟩ := h.cells
  have HG0 := Lib.hid h.lt
  have HC := Lib.hid h
  clear h
  go_enter Tryz.func173, Tryz.ntmps173
  go_wp2_with fail
  refine (Take_l left w (by omega)).mono ?_
  rintro x w1 ⟨rfl, hq⟩
  have h1 := HC.out.quiet hq
  have HG := Lib.hid (grown_quiet (row := some g) hq)
  have H1 := Lib.hid h1
  have hws : w1.heap.size = w.heap.size := by obtain ⟨n, rfl⟩ := hq; rfl
  clear hq c0
  obtain ⟨c0, -⟩ := h1.cells
  have f0 := h1.loose 0
  clear h1
  rcases K.cases (N.takeL left) with ⟨e, ht⟩ | ⟨m, r, ht⟩
  · have HT := Lib.hid (countEvs_bad ht)
    have hpos := K.num_errs left e ht
    have hei : ((e : Int) == 0) = false := beq_eq_false_iff_ne.2 (by omega)
    have hen : ¬ e = 0 := by omega
    rw [ht]
    clear ht
    rw [show tkRes (Sum.inr e) = _ from tkRes_bad e]
    go_wp2
    go_ret
    exact ⟨HG.out, .inr ⟨e, hpos, HT.out, rfl⟩⟩
  by_cases h8 : 8 < m
  · have HT := Lib.hid (countEvs_long ht h8)
    have h8i : (8 : Int) < m := by omega
    rw [ht]
    clear ht
    rw [show tkRes (Sum.inl (m, r)) = _ from tkRes_ok m r]
    go_wp2
    go_ret
    exact ⟨HG.out, .inr ⟨4, by omega, HT.out, rfl⟩⟩
  have hrl := takeL_len ht
  have HT := Lib.hid (countEvs_ok ht h8)
  have h8i : ¬ (8 : Int) < m := by omega
  rw [ht]
  clear ht
  rw [show tkRes (Sum.inl (m, r)) = _ from tkRes_ok m r]
  have HST : Hid (EvAt w g st ex se sq (countEvs left) m 0 (w1.setCell ⟨g, 0, none⟩ (.string (B r))) [] r k d (.slice none 0 0)) := Lib.hid
    ⟨rfl, by rw [HT.out]; exact Evs.start m r, by omega, H1.out.set0 r, World.ownsRow_nil _ _ _ _, grown_set HG.out 0 _⟩
  clear HG H1
  go_wp2
  go_loopw [28] (fun i wr => ∃ j : Nat, i = .int .i64 j ∧ j ≤ m ∧ ∃ evs rest kk dd v, EvAt w g st ex se sq (countEvs left) m j wr evs rest kk dd v) (fun i _ => m - (intOf i).toNat)
  case atStart => exact ⟨0, rfl, Nat.zero_le _, _, _, _, _, _, HST.out⟩
  case round =>
    obtain ⟨j, rfl, hj, evs, rest, kk, dd, v, hat⟩ := hrel
    have HAT := Lib.hid hat
    clear hat HST c0 f0
    by_cases hlt : j < m
    · have hk1 : (j : Int) < (m : Int) := by omega
      have hlt2 := HAT.out.rd.lt
      have HRA := Lib.hid (HAT.out.rd.kept (World.grownBy_alloc wr (.cells #[mV 196 g, mV 197 g] 202) none) (by simp))
      go_wp2_with fail
      refine (rd_pair (gs := wr.heap.size) HRA.out HAT.out.small (World.alloc_heap_new wr _) (by omega)).mono ?_
      rintro x w2 ⟨hg2, ⟨e, r2, hp, rfl, hr2⟩ | ⟨c, hc, hp, rfl⟩⟩
      · have hbase : w.heap.size ≤ wr.heap.size := HAT.out.grown.size
        have hown2 : w2.ownsRow w.heap.size 92 2 v j (evCells evs) := (HAT.out.own.alloc _).kept hg2 (.inr (own_ne HAT.out.own HG0.out).symm)
        have hgw2 : w.grownBy w2 (some g) := (HAT.out.grown.trans (World.grownBy_alloc wr _ _)).trans hg2
        have HOWN2 := Lib.hid hown2
        have HGW2 := Lib.hid hgw2
        have HR2 := Lib.hid hr2
        have HNX := Lib.hid (Evs.step (j := m - (j + 1)) (by have := HAT.out.come; rwa [show m - j = m - (j + 1) + 1 by omega] at this) hp)
        have hr2l := parts_len hp
        have hsm := HAT.out.small
        have hel := HAT.out.len
        have hsz2 : w.heap.size ≤ w2.heap.size := hgw2.size
        have HRA2 := Lib.hid (hr2.kept (World.grownBy_alloc w2 (.cells #[.string (B e.1), .string (B e.2)] 92) none) (by simp))
        have hnv := own_ne hown2 HG0.out
        have HNV := Lib.hid hnv
        obtain ⟨-, c1, c2, -, -, -, -, c7⟩ := hr2.cells
        have hnew := World.new_ne w2 ⟨g, 7, none⟩ c7
        have hj8 : j ≤ 8 := by omega
        clear hg2 hp hr2 HAT HRA hgw2 hnv HC
        go_wp2
        have c7a := HRA2.out.cells.2.2.2.2.2.2.2
        go_region_law
          ((refine step_append_lies _ (by rfl) _ _ _ (by rfl) w.heap.size 92 i0 _ 2 32 Tryz.underlying49 hi hz0 hz1 hz2 rfl (by omega) v j (evCells evs) (by rfl) ((hown2.alloc _).drew)
              ⟨w2.heap.size, 0, none⟩ 1 1 [.string (B e.1), .string (B e.2)] (by rfl) (by rfl) (World.news_of_block (cs := #[.string (B e.1), .string (B e.2)]) (t := 92) (fr := (0, 0)) (heap_alloc_new w2 _)) (by simp [Value.oneCell'])
              (by omega) (by unfold maxLen; omega) (by omega) (by simp; omega) (w2.heap.size + 1) (by simp) ?_; intro gg cap w3 hown3 hgrow hat3 hlt3; have hr3 := RdAt.kept (w := (w2.alloc (.cells #[.string (B e.1), .string (B e.2)] 92)).drew) HRA2.out hgrow HNV.out; have c7b := hr3.cells.2.2.2.2.2.2.2; have f7b := hr3.loose 7))
        all_goals
          have hgw3 : w.grownBy w3 (some g) := ((grown_drew (HGW2.out.trans (World.grownBy_alloc w2 (.cells #[.string (B e.1), .string (B e.2)] 92) _))).andThen (b' := (w2.alloc (.cells #[.string (B e.1), .string (B e.2)] 92)).drew) hgrow fun b hb => .inl (HOWN2.out.lt b hb).1)
          have HN : Hid (EvAt w g st ex se sq (countEvs left) m (j + 1) (w3.setCell ⟨g, 7, none⟩ (.slice (some ⟨gg, 0, none⟩) (j + 1) cap)) (evs ++ [e]) r2 e.1 e.2 (.slice (some ⟨gg, 0, none⟩) (j + 1) cap)) := Lib.hid
            ⟨by rw [List.length_append, hel]; rfl, HNX.out, by omega, hr3.set7 _, by rw [evCells_snoc]; exact hown3.kept (Lib.grownBy_setCell w3 g 7 _) (.inr (own_ne hown3 HG0.out).symm), grown_set hgw3 7 _⟩
          clear hgw3 hgrow hat3 hlt3 hr3 hown3
          go_wp2
          go_roundw
          case rel => exact ⟨j + 1, by go_num, by omega, _, _, _, _, _, HN.out⟩
          case measure => simp [intOf]; omega
      · have HE := Lib.hid (Evs.bad (j := m - (j + 1)) (by have := HAT.out.come; rwa [show m - j = m - (j + 1) + 1 by omega] at this) hp)
        have HGW := Lib.hid ((HAT.out.grown.trans (World.grownBy_alloc wr _ _)).trans hg2)
        have hci : ((c : Int) == 0) = false := beq_eq_false_iff_ne.2 (by omega)
        have hcn : ¬ c = 0 := by omega
        clear hg2 hp
        go_wp2
        go_ret
        exact ⟨HGW.out, .inr ⟨c, hc, HE.out, rfl⟩⟩
    · have hjm : j = m := by omega
      subst hjm
      have hcm := HAT.out.come
      rw [Nat.sub_self] at hcm
      have HE := Lib.hid hcm.done
      have HL := Lib.hid HAT.out.len
      clear hcm
      go_wp2
      go_ret
      exact ⟨HAT.out.grown, .inl ⟨evs, rest, v, HE.out, rfl, ⟨kk, dd, HAT.out.rd⟩, by rw [HL.out]; exact HAT.out.own⟩⟩
end Go.Proofs.YtmfhipjceeijmaaGreatDoor

/-
  Walks of Take and TakeBatch of package event.
-/
namespace Go.Proofs.YtmfhipjceeijmaaGreatDoor
open Go.RowKit
attribute [local go_sem] ext_Bd ext_Bl ext_Bt toList_B add_B size_B get_Bt

/-- What is taken: an event, what is behind, and the error. -/
def evRes (o : K.Rd E.Ev) : E.Ev × List UInt8 × Nat :=
  match o with
  | Sum.inl (e, r) => (e, r, 0)
  | Sum.inr c => (([], []), [], c)
def batRes (o : K.Rd E.Bat) : E.Bat × List UInt8 × Nat :=
  match o with
  | Sum.inl (b, r) => (b, r, 0)
  | Sum.inr c => (⟨[], 0, 0, 0, []⟩, [], c)

theorem three_new (w : World) (A R F : Obj) : (((w.alloc A).alloc R).alloc F).heap[w.heap.size]? = some A ∧ (((w.alloc A).alloc R).alloc F).heap[w.heap.size + 1]? = some R ∧ (((w.alloc A).alloc R).alloc F).heap[w.heap.size + 1 + 1]? = some F ∧ Below w.heap.size w (((w.alloc A).alloc R).alloc F) := by
  refine ⟨?_, ?_, ?_, (((Below.refl _ w).alloc (Nat.le_refl _) A).alloc (by simp) R).alloc (by simp; omega) F⟩
  · rw [Below.heap_alloc _ _ _ (by simp; omega), Below.heap_alloc _ _ _ (by simp)]; exact World.alloc_heap_new w A
  · rw [Below.heap_alloc _ _ _ (by simp)]
    have := World.alloc_heap_new (w.alloc A) R
    rwa [World.size_alloc] at this
  · have := World.alloc_heap_new ((w.alloc A).alloc R) F
    rwa [World.size_alloc, World.size_alloc] at this
/-- A block that calls left as it was. -/
theorem block_kept {w w' : World} {g h : Nat} {o : Obj} (ho : w.heap[h]? = some o) (hg : w.grownBy w' (some g)) (hne : h ≠ g) : w'.heap[h]? = some o :=
  (hg.block h (Array.getElem?_eq_some_iff.1 ho).1 (by simpa using hne)).trans ho
theorem block_below {w w' : World} {h : Nat} {o : Obj} (ho : w.heap[h]? = some o) (hb : Below w.heap.size w w') : w'.heap[h]? = some o :=
  (hb.block h (Array.getElem?_eq_some_iff.1 ho).1).trans ho
theorem block_cell {w : World} {h : Nat} {cs : Array Value} {t : TypeId} (ho : w.heap[h]? = some (.cells cs t (0, 0))) (j : Nat) : w.cell? ⟨h, j, none⟩ = cs[j]? := by simp [World.cell?, ho]
theorem block_loose {w : World} {h : Nat} {cs : Array Value} {t : TypeId} (ho : w.heap[h]? = some (.cells cs t (0, 0))) (j : Nat) : w.frozen? ⟨h, j, none⟩ = false := by simp [World.frozen?, ho]
theorem set_two {w : World} {g : Nat} {x y a b : Value} {t : TypeId} (h : w.heap[g]? = some (.cells #[x, y] t (0, 0))) : ((w.setCell ⟨g, 0, none⟩ a).setCell ⟨g, 1, none⟩ b).cell? ⟨g, 0, none⟩ = some a ∧ ((w.setCell ⟨g, 0, none⟩ a).setCell ⟨g, 1, none⟩ b).cell? ⟨g, 1, none⟩ = some b := by
  have h2 : ((w.setCell ⟨g, 0, none⟩ a).setCell ⟨g, 1, none⟩ b).heap[g]? = some (.cells #[a, b] t (0, 0)) := set_block (set_block h 0 a) 1 b
  exact ⟨block_cell h2 0, block_cell h2 1⟩
theorem takeEv_bad {l : List UInt8} {c : Nat} (h : E.parts l = Sum.inr c) : E.takeEv l = Sum.inr c := K.bind_bad _ h
theorem takeEv_ok {l r : List UInt8} {e : E.Ev} (h : E.parts l = Sum.inl (e, r)) (hr : E.right e = true) : E.takeEv l = Sum.inl (e, r) := (K.bind_ok _ h).trans (if_pos hr)
theorem takeEv_form {l r : List UInt8} {e : E.Ev} (h : E.parts l = Sum.inl (e, r)) (hr : E.right e = false) : E.takeEv l = Sum.inr 2 := (K.bind_ok _ h).trans (if_neg (by rw [hr]; decide))
theorem parts_small {l q : List UInt8} {e : E.Ev} (h : E.parts l = Sum.inl (e, q)) : e.1.length ≤ 200 ∧ e.2.length ≤ 200 := (E.partsC.inv l e q h).2

end Go.Proofs.YtmfhipjceeijmaaGreatDoor

/-
  The walk of TakeBatch of package event.
-/
namespace Go.Proofs.YtmfhipjceeijmaaGreatDoor
open Go.RowKit
attribute [local go_sem] ext_Bd ext_Bl ext_Bt toList_B add_B size_B get_Bt

/-- A batch's bytes, taken part by part. -/
def tb5 (st : List UInt8) (ex se sq : Int) (l : List UInt8) : K.Rd E.Bat := K.bind (countEvs l) fun evs r => if E.fits ⟨st, ex, se, sq, evs⟩ = 0 then Sum.inl (⟨st, ex, se, sq, evs⟩, r) else Sum.inr 2
def tb4 (st : List UInt8) (ex se : Int) (l : List UInt8) : K.Rd E.Bat := K.bind (N.takeL l) fun sq r => tb5 st ex se sq r
def tb3 (st : List UInt8) (ex : Int) (l : List UInt8) : K.Rd E.Bat := K.bind (N.takeL l) fun se r => tb4 st ex se r
def tb2 (st : List UInt8) (l : List UInt8) : K.Rd E.Bat := K.bind (N.takeL l) fun ex r => tb3 st (N.zag ex) r
def tb1 (l : List UInt8) : K.Rd E.Bat := K.bind (N.takeT l 200) fun st r => tb2 st r
theorem tb_eq (l : List UInt8) : E.takeBat l = tb1 l := by
  unfold E.takeBat tb1 tb2 tb3 tb4 tb5 countEvs
  simp only [E.bind_assoc, E.bind_if]

def fiveFs (k : Nat) : Nat := if k = 0 then 169 else if k = 1 then 170 else if k = 2 then 171 else if k = 3 then 172 else 173
def FiveS (w : World) (g : Nat) (s : List UInt8) (n : Nat) (w' : World) : Prop :=
  w.grownBy w' (some g) ∧ match n with
    | 0 => RdAt w' g s [] [] [] 0 0 0 (.slice none 0 0)
    | 1 => ∃ st r, tb1 s = tb2 st r ∧ r.length ≤ s.length ∧ st.length ≤ 200 ∧ RdAt w' g r [] [] st 0 0 0 (.slice none 0 0)
    | 2 => ∃ st ex r, tb1 s = tb3 st ex r ∧ r.length ≤ s.length ∧ st.length ≤ 200 ∧ RdAt w' g r [] [] st ex 0 0 (.slice none 0 0)
    | 3 => ∃ st ex se r, tb1 s = tb4 st ex se r ∧ r.length ≤ s.length ∧ st.length ≤ 200 ∧ RdAt w' g r [] [] st ex se 0 (.slice none 0 0)
    | 4 => ∃ st ex se sq r, tb1 s = tb5 st ex se sq r ∧ r.length ≤ s.length ∧ st.length ≤ 200 ∧ RdAt w' g r [] [] st ex se sq (.slice none 0 0)
    | _ => ∃ st ex se sq evs r v kk dd, (tb1 s = if E.fits ⟨st, ex, se, sq, evs⟩ = 0 then Sum.inl (⟨st, ex, se, sq, evs⟩, r) else Sum.inr 2) ∧ E.Small ⟨st, ex, se, sq, evs⟩ ∧ RdAt w' g r kk dd st ex se sq v ∧ w'.ownsRow w.heap.size 92 2 v evs.length (evCells evs)
theorem evs_small {l r : List UInt8} {evs : List E.Ev} (h : countEvs l = Sum.inl (evs, r)) : evs.length ≤ 8 ∧ ∀ e ∈ evs, e.1.length ≤ 1000 ∧ e.2.length ≤ 1000 := by
  obtain ⟨m, q, h1, h2⟩ := K.bind_inv h
  by_cases h8 : 8 < m
  · rw [if_pos h8] at h2; cases h2
  · rw [if_neg h8] at h2
    obtain ⟨_, hl, ha⟩ := K.takeN_inv E.partsC m q evs r h2
    refine ⟨by omega, fun e he => ?_⟩
    have := ha e he
    unfold K.txtOk at this
    omega
theorem own_base5 {w : World} {a b : Nat} {e : TypeId} {size : Nat} {v : Value} {n : Nat} {xs : List Value} (h : w.ownsRow a e size v n xs) (hab : b ≤ a) : w.ownsRow b e size v n xs := by
  refine ⟨h.1, ?_⟩
  rcases h.2 with hn | ⟨g, cap, cur, hv, hb, rest⟩
  · exact .inl hn
  · exact .inr ⟨g, cap, cur, hv, by omega, rest⟩
theorem own_below5 {w w' : World} {base : Nat} {e : TypeId} {size : Nat} {v : Value} {n : Nat} {xs : List Value} (h : w.ownsRow base e size v n xs) (hb : Below w.heap.size w w') : w'.ownsRow base e size v n xs := by
  refine ⟨h.1, ?_⟩
  rcases h.2 with hn | ⟨g, cap, cur, rfl, hbg, hg, rest⟩
  · exact .inl hn
  · refine .inr ⟨g, cap, cur, rfl, hbg, ?_, rest⟩
    rw [hb.block g (Array.getElem?_eq_some_iff.1 hg).1]
    exact hg
theorem readsE_none (w : World) : ReadsE w (.slice none 0 0) [] := ⟨none, 0, rfl, Nat.le_refl _, fun _ => rfl, fun i hi => by simp at hi⟩
theorem takeT_small {l a r : List UInt8} (h : N.takeT l 200 = Sum.inl (a, r)) : a.length ≤ 200 := ((K.texts (most := 200) (by omega)).inv l a r h).2
theorem rd_five {w : World} {g gs : Nat} {s : List UInt8} {t : TypeId} (h : RdAt w g s [] [] [] 0 0 0 (.slice none 0 0)) (hl : s.length ≤ 1000000)
    (hgs : w.heap[gs]? = some (.cells #[mV 169 g, mV 170 g, mV 171 g, mV 172 g, mV 173 g] t (0, 0))) (hne : gs ≠ g) :
    Calls Tryz.prog 168 #[.slice (some ⟨gs, 0, none⟩) 5 5] w fun x w' => (x = .returned (.int .i64 0) ∧ FiveS w g s 5 w') ∨ ∃ c : Nat, 0 < c ∧ x = .returned (.int .i64 c) ∧ w.grownBy w' (some g) ∧ tb1 s = Sum.inr c := by
  refine inOrder_run gs 5 g fiveFs (FiveS w g s) (fun c w' => w.grownBy w' (some g) ∧ tb1 s = Sum.inr c) (by omega) ?_ ?_ ?_ w ?_
  · intro n hn
    match n, hn with
    | 0, _ => exact .inr (.inr (.inl rfl))
    | 1, _ => exact .inr (.inr (.inr (.inl rfl)))
    | 2, _ => exact .inr (.inr (.inr (.inr (.inl rfl))))
    | 3, _ => exact .inr (.inr (.inr (.inr (.inr (.inl rfl)))))
    | 4, _ => exact .inr (.inr (.inr (.inr (.inr (.inr rfl)))))
  · intro n wr hn hs
    rw [cell_of_block hgs hs.1 hne]
    match n, hn with
    | 0, _ => rfl
    | 1, _ => rfl
    | 2, _ => rfl
    | 3, _ => rfl
    | 4, _ => rfl
  · intro n wr hn hs
    match n, hn, hs with
    | 0, _, hs =>
      refine (rd_stream hs.2 hl).mono ?_
      rintro x w' ⟨hg, ⟨a, r, ht, rfl, hr⟩ | ⟨c, ht, rfl⟩⟩
      · exact .inl ⟨rfl, hs.1.trans hg, a, r, K.bind_ok _ ht, takeT_len ht, takeT_small ht, hr⟩
      · exact .inr ⟨c, K.txt_errs _ _ _ ht, rfl, hs.1.trans hg, K.bind_bad _ ht⟩
    | 1, _, hs =>
      obtain ⟨hg0, st, r0, e0, l0, s0, h0⟩ := hs
      refine (rd_expect h0 (by omega)).mono ?_
      rintro x w' ⟨hg, ⟨a, r, ht, rfl, hr⟩ | ⟨c, ht, rfl⟩⟩
      · exact .inl ⟨rfl, hg0.trans hg, st, _, r, e0.trans (K.bind_ok _ ht), by have := takeL_len ht; omega, s0, hr⟩
      · exact .inr ⟨c, K.num_errs _ _ ht, rfl, hg0.trans hg, e0.trans (K.bind_bad _ ht)⟩
    | 2, _, hs =>
      obtain ⟨hg0, st, ex, r0, e0, l0, s0, h0⟩ := hs
      refine (rd_session h0 (by omega)).mono ?_
      rintro x w' ⟨hg, ⟨a, r, ht, rfl, hr⟩ | ⟨c, ht, rfl⟩⟩
      · exact .inl ⟨rfl, hg0.trans hg, st, ex, _, r, e0.trans (K.bind_ok _ ht), by have := takeL_len ht; omega, s0, hr⟩
      · exact .inr ⟨c, K.num_errs _ _ ht, rfl, hg0.trans hg, e0.trans (K.bind_bad _ ht)⟩
    | 3, _, hs =>
      obtain ⟨hg0, st, ex, se, r0, e0, l0, s0, h0⟩ := hs
      refine (rd_seq h0 (by omega)).mono ?_
      rintro x w' ⟨hg, ⟨a, r, ht, rfl, hr⟩ | ⟨c, ht, rfl⟩⟩
      · exact .inl ⟨rfl, hg0.trans hg, st, ex, se, _, r, e0.trans (K.bind_ok _ ht), by have := takeL_len ht; omega, s0, hr⟩
      · exact .inr ⟨c, K.num_errs _ _ ht, rfl, hg0.trans hg, e0.trans (K.bind_bad _ ht)⟩
    | 4, _, hs =>
      obtain ⟨hg0, st, ex, se, sq, r0, e0, l0, s0, h0⟩ := hs
      refine (rd_events h0 (by omega)).mono ?_
      rintro x w' ⟨hg, ⟨evs, r, v, ht, rfl, ⟨kk, dd, hr⟩, hown⟩ | ⟨c, hc, ht, rfl⟩⟩
      · exact .inl ⟨rfl, hg0.trans hg, st, ex, se, sq, evs, r, v, kk, dd, e0.trans (K.bind_ok _ ht), ⟨by dsimp only; omega, fun _ e he => by have := (evs_small ht).2 e he; omega⟩, hr, own_base5 hown hg0.size⟩
      · exact .inr ⟨c, hc, rfl, hg0.trans hg, e0.trans (K.bind_bad _ ht)⟩
  · exact ⟨⟨rfl, rfl, rfl, Nat.le_refl _, fun _ _ _ => rfl⟩, h⟩
theorem set_five {w : World} {g : Nat} {x1 x2 x3 x4 x5 a b c d e : Value} {t : TypeId} (h : w.heap[g]? = some (.cells #[x1, x2, x3, x4, x5] t (0, 0))) :
    (((((w.setCell ⟨g, 0, none⟩ a).setCell ⟨g, 1, none⟩ b).setCell ⟨g, 2, none⟩ c).setCell ⟨g, 3, none⟩ d).setCell ⟨g, 4, none⟩ e).heap[g]? = some (.cells #[a, b, c, d, e] t (0, 0)) :=
  set_block (set_block (set_block (set_block (set_block h 0 a) 1 b) 2 c) 3 d) 4 e
theorem below_five {w w' : World} {g : Nat} (h : Below w.heap.size w w') (hg : w.heap.size ≤ g) (a b c d e : Value) :
    Below w.heap.size w (((((w'.setCell ⟨g, 0, none⟩ a).setCell ⟨g, 1, none⟩ b).setCell ⟨g, 2, none⟩ c).setCell ⟨g, 3, none⟩ d).setCell ⟨g, 4, none⟩ e) :=
  ((((h.setCell (p := ⟨g, 0, none⟩) hg a).setCell (p := ⟨g, 1, none⟩) hg b).setCell (p := ⟨g, 2, none⟩) hg c).setCell (p := ⟨g, 3, none⟩) hg d).setCell (p := ⟨g, 4, none⟩) hg e
theorem grown_five (w : World) (g : Nat) (a b c d e : Value) : w.grownBy (((((w.setCell ⟨g, 0, none⟩ a).setCell ⟨g, 1, none⟩ b).setCell ⟨g, 2, none⟩ c).setCell ⟨g, 3, none⟩ d).setCell ⟨g, 4, none⟩ e) (some g) :=
  grown_set (grown_set (grown_set (grown_set (grown_set ⟨rfl, rfl, rfl, Nat.le_refl _, fun _ _ _ => rfl⟩ 0 a) 1 b) 2 c) 3 d) 4 e

set_option maxHeartbeats 4000000 in
set_option maxRecDepth 100000 in
theorem ETakeBat_at (s : List UInt8) (b : E.Bat) (r : List UInt8) (c : Nat) (w : World) (hs : s.length ≤ 1000000) (H : Hid (batRes (E.takeBat s) = (b, r, c))) :
    Calls Tryz.prog 135 #[.string (B s)] w fun x w' => ∃ v, x = .returned (.tuple #[batV b v, .string (B r), .int .i64 c]) ∧ ReadsE w' v b.events ∧ Below w.heap.size w w' := by
  have hmf : ∀ (fn : Fn) (first cap : Array Value) (w : World), (Instr.makeFunc fn first cap).run Tryz.prog w = .ok (.func fn first cap) w := fun _ _ _ _ => rfl
  rw [tb_eq] at H
  obtain ⟨hA, hR, hF, hB⟩ := three_new w (.cells #[.string (B []), .int .i64 0, .int .i64 0, .int .i64 0, .slice none 0 0] 51) (.cells #[.string (B s), .string (B []), .string (B []), .string (B []), .int .i64 0, .int .i64 0, .int .i64 0, .slice none 0 0] 200)
    (.cells #[mV 169 (w.heap.size + 1), mV 170 (w.heap.size + 1), mV 171 (w.heap.size + 1), mV 172 (w.heap.size + 1), mV 173 (w.heap.size + 1)] 202)
  have HA := Lib.hid hA
  have HF := Lib.hid hF
  have HB := Lib.hid hB
  have HR := Lib.hid (show RdAt _ (w.heap.size + 1) s [] [] [] 0 0 0 (.slice none 0 0) from hR)
  clear hA hR hF hB
  go_enter Tryz.func135, Tryz.ntmps135
  go_wp2_with fail
  refine (rd_five (g := w.heap.size + 1) (gs := w.heap.size + 1 + 1) HR.out hs HF.out (by omega)).mono ?_
  rintro x w1 (⟨rfl, hg, st, ex, se, sq, evs, r2, v, kk, dd, htb, hsm, hrd, hown⟩ | ⟨c2, hc, rfl, hg, htb⟩)
  · have HA1 := Lib.hid (block_kept HA.out hg (by omega))
    have hb1 : Below w.heap.size w w1 := HB.out.grown hg HB.out.size (fun k hk => by cases hk; omega)
    have HB1 := Lib.hid hb1
    have hsz : w.heap.size + 1 + 1 + 1 = (((w.alloc (.cells #[.string (B []), .int .i64 0, .int .i64 0, .int .i64 0, .slice none 0 0] 51)).alloc (.cells #[.string (B s), .string (B []), .string (B []), .string (B []), .int .i64 0, .int .i64 0, .int .i64 0, .slice none 0 0] 200)).alloc
      (.cells #[mV 169 (w.heap.size + 1), mV 170 (w.heap.size + 1), mV 171 (w.heap.size + 1), mV 172 (w.heap.size + 1), mV 173 (w.heap.size + 1)] 202)).heap.size := by simp
    rw [← hsz] at hown
    have HOW := Lib.hid hown
    have HRD := Lib.hid hrd
    have HSM := Lib.hid hsm
    have HRE := Lib.hid (readsE_own hown)
    obtain ⟨pa, pc, hvv, -⟩ := readsE_own hown
    subst hvv
    obtain ⟨c0, -, -, c3, c4, c5, c6, c7⟩ := hrd.cells
    obtain ⟨f, HFI⟩ : ∃ f, Hid (E.fits ⟨st, ex, se, sq, evs⟩ = f) := ⟨_, Lib.hid rfl⟩
    have hev := H.out
    rw [htb, HFI.out] at hev
    clear hg hb1 HA HF HB HR hsz hrd hown hsm htb H
    by_cases hf : f = 0
    · subst hf
      rw [if_pos rfl] at hev
      cases hev
      go_wp2_with fail
      refine (Fits_at ⟨st, ex, se, sq, evs⟩ (.slice pa evs.length pc) 0 w1 HRE.out HSM.out HFI).mono ?_
      rintro x w2 ⟨rfl, hb2⟩
      have HA2 := Lib.hid (block_below HA1.out hb2)
      have HB2 := Lib.hid (HB1.out.trans (hb2.mono HB1.out.size))
      have hrd2 := HRD.out.below hb2
      have HOW2 := Lib.hid (own_below5 HOW.out hb2)
      clear c0 c3 c4 c5 c6 c7 hb2
      obtain ⟨c0, -, -, c3, c4, c5, c6, c7⟩ := hrd2.cells
      clear hrd2
      have a0 := block_cell HA2.out 0
      have a1 := block_cell HA2.out 1
      have a2 := block_cell HA2.out 2
      have a3 := block_cell HA2.out 3
      have a4 := block_cell HA2.out 4
      simp at a0 a1 a2 a3 a4
      have l0 := block_loose HA2.out 0
      have l1 := block_loose HA2.out 1
      have l2 := block_loose HA2.out 2
      have l3 := block_loose HA2.out 3
      have l4 := block_loose HA2.out 4
      go_wp2
      go_region
      all_goals
        go_wp2
        have HK : Hid ((((((w2.setCell ⟨w.heap.size, 0, none⟩ (.string (B st))).setCell ⟨w.heap.size, 1, none⟩ (.int .i64 ex)).setCell ⟨w.heap.size, 2, none⟩ (.int .i64 se)).setCell ⟨w.heap.size, 3, none⟩ (.int .i64 sq)).setCell ⟨w.heap.size, 4, none⟩ (.slice pa evs.length pc)).drew.heap[w.heap.size]? = some (.cells #[.string (B st), .int .i64 ex, .int .i64 se, .int .i64 sq, .slice pa evs.length pc] 51 (0, 0))) := Lib.hid (set_five HA2.out)
        have HB3 : Hid (Below w.heap.size w (((((w2.setCell ⟨w.heap.size, 0, none⟩ (.string (B st))).setCell ⟨w.heap.size, 1, none⟩ (.int .i64 ex)).setCell ⟨w.heap.size, 2, none⟩ (.int .i64 se)).setCell ⟨w.heap.size, 3, none⟩ (.int .i64 sq)).setCell ⟨w.heap.size, 4, none⟩ (.slice pa evs.length pc)).drew) := Lib.hid (below_five HB2.out (Nat.le_refl _) _ _ _ _ _).drew
        have HR3 : Hid (ReadsE (((((w2.setCell ⟨w.heap.size, 0, none⟩ (.string (B st))).setCell ⟨w.heap.size, 1, none⟩ (.int .i64 ex)).setCell ⟨w.heap.size, 2, none⟩ (.int .i64 se)).setCell ⟨w.heap.size, 3, none⟩ (.int .i64 sq)).setCell ⟨w.heap.size, 4, none⟩ (.slice pa evs.length pc)).drew (.slice pa evs.length pc) evs) := Lib.hid (readsE_own (HOW2.out.kept (grown_drew (grown_five w2 w.heap.size _ _ _ _ _)) (.inr (own_ne HOW2.out (by omega)).symm)))
        generalize (((((w2.setCell ⟨w.heap.size, 0, none⟩ (.string (B st))).setCell ⟨w.heap.size, 1, none⟩ (.int .i64 ex)).setCell ⟨w.heap.size, 2, none⟩ (.int .i64 se)).setCell ⟨w.heap.size, 3, none⟩ (.int .i64 sq)).setCell ⟨w.heap.size, 4, none⟩ (.slice pa evs.length pc)).drew = w9 at *
        have k0 := block_cell HK.out 0
        have k1 := block_cell HK.out 1
        have k2 := block_cell HK.out 2
        have k3 := block_cell HK.out 3
        have k4 := block_cell HK.out 4
        simp at k0 k1 k2 k3 k4
        exact bodyPost_ret (v := .tuple #[batV ⟨st, ex, se, sq, evs⟩ (.slice pa evs.length pc), .string (B r), .int .i64 0]) (by simp [results, Tryz.results135, go_sem, k0, k1, k2, k3, k4]) rfl ⟨_, rfl, HR3.out, HB3.out⟩
    · rw [if_neg hf] at hev
      cases hev
      have hfi : ((f : Int) == 0) = false := beq_eq_false_iff_ne.2 (by omega)
      go_wp2_with fail
      refine (Fits_at ⟨st, ex, se, sq, evs⟩ _ f w1 HRE.out HSM.out HFI).mono ?_
      rintro x w2 ⟨rfl, hb2⟩
      have HA2 := Lib.hid (block_below HA1.out hb2)
      have HB2 := Lib.hid (HB1.out.trans (hb2.mono HB1.out.size))
      clear c0 c3 c4 c5 c6 c7 hb2
      have a0 := block_cell HA2.out 0
      have a1 := block_cell HA2.out 1
      have a2 := block_cell HA2.out 2
      have a3 := block_cell HA2.out 3
      have a4 := block_cell HA2.out 4
      simp at a0 a1 a2 a3 a4
      have l0 := block_loose HA2.out 0
      have l1 := block_loose HA2.out 1
      have l2 := block_loose HA2.out 2
      have l3 := block_loose HA2.out 3
      have l4 := block_loose HA2.out 4
      go_wp2
      have HK : Hid ((((((w2.setCell ⟨w.heap.size, 0, none⟩ (.string ⟨#[]⟩)).setCell ⟨w.heap.size, 1, none⟩ (.int .i64 0)).setCell ⟨w.heap.size, 2, none⟩ (.int .i64 0)).setCell ⟨w.heap.size, 3, none⟩ (.int .i64 0)).setCell ⟨w.heap.size, 4, none⟩ (.slice none 0 0)).heap[w.heap.size]? = some (.cells #[.string ⟨#[]⟩, .int .i64 0, .int .i64 0, .int .i64 0, .slice none 0 0] 51 (0, 0))) := Lib.hid (set_five HA2.out)
      have HB3 : Hid (Below w.heap.size w (((((w2.setCell ⟨w.heap.size, 0, none⟩ (.string ⟨#[]⟩)).setCell ⟨w.heap.size, 1, none⟩ (.int .i64 0)).setCell ⟨w.heap.size, 2, none⟩ (.int .i64 0)).setCell ⟨w.heap.size, 3, none⟩ (.int .i64 0)).setCell ⟨w.heap.size, 4, none⟩ (.slice none 0 0))) := Lib.hid (below_five HB2.out (Nat.le_refl _) _ _ _ _ _)
      generalize (((((w2.setCell ⟨w.heap.size, 0, none⟩ (.string ⟨#[]⟩)).setCell ⟨w.heap.size, 1, none⟩ (.int .i64 0)).setCell ⟨w.heap.size, 2, none⟩ (.int .i64 0)).setCell ⟨w.heap.size, 3, none⟩ (.int .i64 0)).setCell ⟨w.heap.size, 4, none⟩ (.slice none 0 0)) = w9 at *
      have k0 := block_cell HK.out 0
      have k1 := block_cell HK.out 1
      have k2 := block_cell HK.out 2
      have k3 := block_cell HK.out 3
      have k4 := block_cell HK.out 4
      simp at k0 k1 k2 k3 k4
      exact bodyPost_ret (v := .tuple #[batV ⟨[], 0, 0, 0, []⟩ (.slice none 0 0), .string (B []), .int .i64 2]) (by simp [results, Tryz.results135, go_sem, k0, k1, k2, k3, k4]; rfl) rfl ⟨_, rfl, readsE_none _, HB3.out⟩
  · have HA1 := Lib.hid (block_kept HA.out hg (by omega))
    have hb1 : Below w.heap.size w w1 := HB.out.grown hg HB.out.size (fun k hk => by cases hk; omega)
    have HB1 := Lib.hid hb1
    have hev := H.out
    rw [htb] at hev
    cases hev
    have hci : ((c : Int) == 0) = false := beq_eq_false_iff_ne.2 (by omega)
    have hcn : ¬ c = 0 := by omega
    clear hg hb1 HA HF HB HR htb H
    have a0 := block_cell HA1.out 0
    have a1 := block_cell HA1.out 1
    have a2 := block_cell HA1.out 2
    have a3 := block_cell HA1.out 3
    have a4 := block_cell HA1.out 4
    simp at a0 a1 a2 a3 a4
    have l0 := block_loose HA1.out 0
    have l1 := block_loose HA1.out 1
    have l2 := block_loose HA1.out 2
    have l3 := block_loose HA1.out 3
    have l4 := block_loose HA1.out 4
    go_wp2
    have HK : Hid ((((((w1.setCell ⟨w.heap.size, 0, none⟩ (.string ⟨#[]⟩)).setCell ⟨w.heap.size, 1, none⟩ (.int .i64 0)).setCell ⟨w.heap.size, 2, none⟩ (.int .i64 0)).setCell ⟨w.heap.size, 3, none⟩ (.int .i64 0)).setCell ⟨w.heap.size, 4, none⟩ (.slice none 0 0)).heap[w.heap.size]? = some (.cells #[.string ⟨#[]⟩, .int .i64 0, .int .i64 0, .int .i64 0, .slice none 0 0] 51 (0, 0))) := Lib.hid (set_five HA1.out)
    have HB3 : Hid (Below w.heap.size w (((((w1.setCell ⟨w.heap.size, 0, none⟩ (.string ⟨#[]⟩)).setCell ⟨w.heap.size, 1, none⟩ (.int .i64 0)).setCell ⟨w.heap.size, 2, none⟩ (.int .i64 0)).setCell ⟨w.heap.size, 3, none⟩ (.int .i64 0)).setCell ⟨w.heap.size, 4, none⟩ (.slice none 0 0))) := Lib.hid (below_five HB1.out (Nat.le_refl _) _ _ _ _ _)
    generalize (((((w1.setCell ⟨w.heap.size, 0, none⟩ (.string ⟨#[]⟩)).setCell ⟨w.heap.size, 1, none⟩ (.int .i64 0)).setCell ⟨w.heap.size, 2, none⟩ (.int .i64 0)).setCell ⟨w.heap.size, 3, none⟩ (.int .i64 0)).setCell ⟨w.heap.size, 4, none⟩ (.slice none 0 0)) = w9 at *
    have k0 := block_cell HK.out 0
    have k1 := block_cell HK.out 1
    have k2 := block_cell HK.out 2
    have k3 := block_cell HK.out 3
    have k4 := block_cell HK.out 4
    simp at k0 k1 k2 k3 k4
    exact bodyPost_ret (v := .tuple #[batV ⟨[], 0, 0, 0, []⟩ (.slice none 0 0), .string (B []), .int .i64 c]) (by simp [results, Tryz.results135, go_sem, k0, k1, k2, k3, k4]; rfl) rfl ⟨_, rfl, readsE_none _, HB3.out⟩
end Go.Proofs.YtmfhipjceeijmaaGreatDoor

/-
  Lists of batches that came in, and rows of batches of the call's own.
-/
namespace Go.Proofs.YtmfhipjceeijmaaGreatDoor
open Go.RowKit Go.ChangeShapes Go.WideShapes Go.Deep

/-- A batch, and the slice of its events. -/
abbrev BV : Type := E.Bat × Value
abbrev bvCells (p : BV) : List Value := [.string (B p.1.stream), .int .i64 p.1.expect, .int .i64 p.1.session, .int .i64 p.1.seq, p.2]
def ReadsB (w : World) (v : Value) (bs : List BV) : Prop :=
  ∃ a cap, v = .slice a bs.length cap ∧ ∀ i (h : i < bs.length), ReadsE w bs[i].2 bs[i].1.events ∧ ∃ b off, a = some ⟨b, off, none⟩ ∧ w.cell? ⟨b, off + i * 5, none⟩ = some (.string (B bs[i].1.stream)) ∧ w.cell? ⟨b, off + i * 5 + 1, none⟩ = some (.int .i64 bs[i].1.expect) ∧
    w.cell? ⟨b, off + i * 5 + 2, none⟩ = some (.int .i64 bs[i].1.session) ∧ w.cell? ⟨b, off + i * 5 + 3, none⟩ = some (.int .i64 bs[i].1.seq) ∧ w.cell? ⟨b, off + i * 5 + 4, none⟩ = some bs[i].2
section
variable {H : Type} {enc : TypeId × Value → H} {P : Program} {w : World} {base : Nat} {spare : Nat → Bool} {held : Bool}
theorem arg_batches {r : Reach} {b0 : Nat} {t tb te tl : TypeId} {g0 g1 : Field} {f0 f1 f2 f3 f4 : Field} {v : Value} {d : DataW H} {p : List MemPlace} (hts : P.underlying t = some (.slice tb)) (ht : P.underlying tb = some (.struct #[f0, f1, f2, f3, f4])) (hone : oneCellFields P #[f0, f1, f2, f3, f4] = true) (hC : P.cellsOf tb = 5)
    (h0 : P.underlying f0.type = some .string) (h1 : P.underlying f1.type = some (.int .i64)) (h2 : P.underlying f2.type = some (.int .i64)) (h3 : P.underlying f3.type = some (.int .i64)) (h4 : f4.type = tl)
    (hl : P.underlying tl = some (.slice te)) (hte : P.underlying te = some (.struct #[g0, g1])) (hone2 : oneCellFields P #[g0, g1] = true) (hC2 : P.cellsOf te = 2) (hg0 : P.underlying g0.type = some .string) (hg1 : P.underlying g1.type = some .string)
    (hv : Value.okWide P w r b0 t v) (h : DataW.Trod enc P w base spare held t v d p) : ∃ bs, ReadsB w v bs := by
  obtain ⟨a0, len, cap, rfl⟩ := okWide_slice hts hv
  obtain ⟨fuel, hf⟩ := h
  have hf2 : DataW.trod enc P w base spare held fuel t [.slice a0 len cap] = some (d, p) := hf
  rcases open_slice hts hf2 with ⟨hcs, _⟩ | ⟨a, len1, cap1, m, n, D, Pl, hcs, hb, hle, hm, hmm, _, hi⟩
  · cases hcs
    exact ⟨[], none, 0, rfl, fun i hi => by simp at hi⟩
  · cases hcs
    have hlm : len ≤ m := by rw [hmm]; split <;> omega
    have key : ∀ i, i < len → ∃ q : BV, ReadsE w q.2 q.1.events ∧ w.cell? (a.add (i * 5)) = some (.string (B q.1.stream)) ∧ w.cell? (a.add (i * 5 + 1)) = some (.int .i64 q.1.expect) ∧
        w.cell? (a.add (i * 5 + 2)) = some (.int .i64 q.1.session) ∧ w.cell? (a.add (i * 5 + 3)) = some (.int .i64 q.1.seq) ∧ w.cell? (a.add (i * 5 + 4)) = some q.2 := by
      intro i hil
      obtain ⟨cs, hc, hr⟩ := hi i (by omega)
      rw [hC] at hc
      obtain ⟨b, u, rfl, hre, _⟩ := open_batch ht hone hC h0 h1 h2 h3 h4 hl hte hone2 hC2 hg0 hg1 hr
      obtain ⟨_, _, hat⟩ := World.cells?_some hc
      have c0 := hat 0 (by omega)
      have c1 := hat 1 (by omega)
      have c2 := hat 2 (by omega)
      have c3 := hat 3 (by omega)
      have c4 := hat 4 (by omega)
      rw [Go.Deep.add_add] at c0 c1 c2 c3 c4
      exact ⟨(b, u), hre, c0, c1, c2, c3, c4⟩
    obtain ⟨f, hf⟩ : ∃ f : Nat → BV, ∀ i, i < len → ReadsE w (f i).2 (f i).1.events ∧ w.cell? (a.add (i * 5)) = some (.string (B (f i).1.stream)) ∧ w.cell? (a.add (i * 5 + 1)) = some (.int .i64 (f i).1.expect) ∧
        w.cell? (a.add (i * 5 + 2)) = some (.int .i64 (f i).1.session) ∧ w.cell? (a.add (i * 5 + 3)) = some (.int .i64 (f i).1.seq) ∧ w.cell? (a.add (i * 5 + 4)) = some (f i).2 := by
      refine ⟨fun i => if h : i < len then Classical.choose (key i h) else (⟨[], 0, 0, 0, []⟩, .slice none 0 0), fun i hil => ?_⟩
      have hs := Classical.choose_spec (key i hil)
      simp only [dif_pos hil]
      exact hs
    obtain ⟨b, off, spot⟩ := a
    refine ⟨(List.range len).map f, some ⟨b, off, spot⟩, cap, by simp, fun i hi => ?_⟩
    have hil : i < len := by simpa using hi
    have hspot : spot = none := by simpa [Addr.add] using World.cell?_spot (hf 0 (by omega)).2.1
    subst hspot
    obtain ⟨hre, c0, c1, c2, c3, c4⟩ := hf i hil
    rw [Go.WideShapes.add_plain] at c0 c1 c2 c3 c4
    refine ⟨by simpa using hre, b, off, rfl, ?_, ?_, ?_, ?_, ?_⟩
    · simpa using c0
    · simpa [Nat.add_assoc] using c1
    · simpa [Nat.add_assoc] using c2
    · simpa [Nat.add_assoc] using c3
    · simpa [Nat.add_assoc] using c4
end
/-- The cells of batches that lie in a row. -/
def batCells (bs : List BV) : List Value := bs.flatMap bvCells
theorem batCells_len : ∀ (bs : List BV), (batCells bs).length = bs.length * 5
  | [] => rfl
  | b :: bs => by
    have h := batCells_len bs
    unfold batCells at h ⊢
    rw [List.flatMap_cons, List.length_append, h]
    simp only [List.length_cons, List.length_nil]
    omega
theorem batCells_snoc (bs : List BV) (p : BV) : batCells (bs ++ [p]) = batCells bs ++ bvCells p := by simp [batCells]
theorem batCells_get : ∀ (bs : List BV) (i : Nat) (h : i < bs.length), (batCells bs)[i * 5]? = some (.string (B bs[i].1.stream)) ∧ (batCells bs)[i * 5 + 1]? = some (.int .i64 bs[i].1.expect) ∧ (batCells bs)[i * 5 + 2]? = some (.int .i64 bs[i].1.session) ∧
    (batCells bs)[i * 5 + 3]? = some (.int .i64 bs[i].1.seq) ∧ (batCells bs)[i * 5 + 4]? = some bs[i].2
  | b :: bs, 0, _ => ⟨rfl, rfl, rfl, rfl, rfl⟩
  | b :: bs, i + 1, h => by
    have ih := batCells_get bs i (by simpa using h)
    have e1 : batCells (b :: bs) = .string (B b.1.stream) :: .int .i64 b.1.expect :: .int .i64 b.1.session :: .int .i64 b.1.seq :: b.2 :: batCells bs := by simp [batCells]
    rw [e1, show (i + 1) * 5 = i * 5 + 1 + 1 + 1 + 1 + 1 by omega]
    exact ih
theorem Tryz.infoBat : (Tryz.prog.info? 51).map (fun i => (i.zero, i.size, i.bytes)) = some (some (.agg #[.string ⟨#[]⟩, .int .i64 0, .int .i64 0, .int .i64 0, .slice none 0 0]), 5, 64) := by kernel_rfl

/-- A batch in box g and one in block h from offset o on, as calls leave them. -/
abbrev RB (w0 : World) (g h o : Nat) (s1 : List UInt8) (x1 y1 z1 : Int) (v1 : Value) (s2 : List UInt8) (x2 y2 z2 : Int) (v2 : Value) (a : World) : Prop :=
  a.cell? ⟨g, 0, none⟩ = some (.string (B s1)) ∧ a.cell? ⟨g, 1, none⟩ = some (.int .i64 x1) ∧ a.cell? ⟨g, 2, none⟩ = some (.int .i64 y1) ∧ a.cell? ⟨g, 3, none⟩ = some (.int .i64 z1) ∧ a.cell? ⟨g, 4, none⟩ = some v1 ∧
    a.cell? ⟨h, o, none⟩ = some (.string (B s2)) ∧ a.cell? ⟨h, o + 1, none⟩ = some (.int .i64 x2) ∧ a.cell? ⟨h, o + 2, none⟩ = some (.int .i64 y2) ∧ a.cell? ⟨h, o + 3, none⟩ = some (.int .i64 z2) ∧ a.cell? ⟨h, o + 4, none⟩ = some v2 ∧ KeptB w0 a
section
variable {w0 : World} {g h o : Nat} {s1 s2 : List UInt8} {x1 y1 z1 x2 y2 z2 : Int} {v1 v2 : Value} {a b : World}
theorem RB_drew (hs : RB w0 g h o s1 x1 y1 z1 v1 s2 x2 y2 z2 v2 a) : RB w0 g h o s1 x1 y1 z1 v1 s2 x2 y2 z2 v2 a.drew := by
  obtain ⟨h0, h1, h2, h3, h4, h5, h6, h7, h8, h9, hk⟩ := hs
  exact ⟨h0, h1, h2, h3, h4, h5, h6, h7, h8, h9, keptB_drew hk⟩
theorem RB_call (hs : RB w0 g h o s1 x1 y1 z1 v1 s2 x2 y2 z2 v2 a) (hb : Below a.heap.size a b) : RB w0 g h o s1 x1 y1 z1 v1 s2 x2 y2 z2 v2 b := by
  obtain ⟨h0, h1, h2, h3, h4, h5, h6, h7, h8, h9, hk⟩ := hs
  have key : ∀ {p : Addr} {u : Value}, a.cell? p = some u → b.cell? p = some u := fun {p u} hp => by rw [hb.cell (World.block_lt_of_cell? a _ hp)]; exact hp
  exact ⟨key h0, key h1, key h2, key h3, key h4, key h5, key h6, key h7, key h8, key h9, keptB_call hk hb⟩
theorem RB_below (hs : RB w0 g h o s1 x1 y1 z1 v1 s2 x2 y2 z2 v2 a) : Below w0.heap.size w0 a := hs.2.2.2.2.2.2.2.2.2.2
end
theorem rows_len : ∀ (bs : List BV), (∀ p ∈ bs, E.fits p.1 = 0) → (bs.flatMap fun p => E.bytes p.1).length ≤ 20000 * bs.length
  | [], _ => by simp
  | b :: bs, h => by
    have h1 := E.bytes_len (h b (by simp))
    have h2 := rows_len bs fun p hp => h p (by simp [hp])
    rw [List.flatMap_cons, List.length_append, List.length_cons]
    omega
end Go.Proofs.YtmfhipjceeijmaaGreatDoor

/-
  Entries, lists of entries, of marks and of numbers that came in: what their cells hold.
-/
namespace Go.Proofs.YtmfhipjceeijmaaGreatDoor
open Go.RowKit Go.ChangeShapes Go.WideShapes Go.Deep

/-- An entry, and the slice of its events. -/
abbrev EV : Type := R.En × Value
abbrev enV (e : R.En) (v : Value) : Value := .agg #[.int .i64 e.pos, .int .i64 e.epoch, .string (B e.b.stream), .int .i64 e.b.expect, .int .i64 e.b.session, .int .i64 e.b.seq, v]
def At7 (w : World) (b o : Nat) (e : R.En) (v : Value) : Prop :=
  w.cell? ⟨b, o, none⟩ = some (.int .i64 e.pos) ∧ w.cell? ⟨b, o + 1, none⟩ = some (.int .i64 e.epoch) ∧ w.cell? ⟨b, o + 2, none⟩ = some (.string (B e.b.stream)) ∧ w.cell? ⟨b, o + 3, none⟩ = some (.int .i64 e.b.expect) ∧
    w.cell? ⟨b, o + 4, none⟩ = some (.int .i64 e.b.session) ∧ w.cell? ⟨b, o + 5, none⟩ = some (.int .i64 e.b.seq) ∧ w.cell? ⟨b, o + 6, none⟩ = some v
theorem At7.keep {w w' : World} {b o : Nat} {e : R.En} {v : Value} (h : At7 w b o e v) (hk : ∀ (p : Addr) (u : Value), w.cell? p = some u → w'.cell? p = some u) : At7 w' b o e v := by
  obtain ⟨h0, h1, h2, h3, h4, h5, h6⟩ := h
  exact ⟨hk _ _ h0, hk _ _ h1, hk _ _ h2, hk _ _ h3, hk _ _ h4, hk _ _ h5, hk _ _ h6⟩
theorem below_keeps {w w' : World} (hb : Below w.heap.size w w') (p : Addr) (u : Value) (h : w.cell? p = some u) : w'.cell? p = some u := by
  rw [hb.cell (World.block_lt_of_cell? w p h)]; exact h
def i64B (z : Int) : Prop := -9223372036854775808 ≤ z ∧ z ≤ 9223372036854775807
def ReadsR (w : World) (v : Value) (es : List EV) : Prop :=
  ∃ a cap, v = .slice a es.length cap ∧ es.length ≤ cap ∧ (a = none → cap = 0) ∧ ∀ i (h : i < es.length), ReadsE w es[i].2 es[i].1.b.events ∧ i64B es[i].1.pos ∧ ∃ b off, a = some ⟨b, off, none⟩ ∧ At7 w b (off + i * 7) es[i].1 es[i].2
theorem readsR_below {w w' : World} {v : Value} {es : List EV} (h : ReadsR w v es) (hb : Below w.heap.size w w') : ReadsR w' v es := by
  obtain ⟨a, cap, h1, h2, h3, hx⟩ := h
  refine ⟨a, cap, h1, h2, h3, fun i hi => ?_⟩
  obtain ⟨r, rp, b, off, e, c⟩ := hx i hi
  exact ⟨readsE_below r hb, rp, b, off, e, c.keep (below_keeps hb)⟩
/-- A slice of marks that reads as a list. -/
def ReadsM (w : World) (v : Value) (ms : List R.Mk) : Prop :=
  ∃ a cap, v = .slice a ms.length cap ∧ ms.length ≤ cap ∧ (a = none → cap = 0) ∧ ∀ i (h : i < ms.length), ∃ b off, a = some ⟨b, off, none⟩ ∧ w.cell? ⟨b, off + i * 2, none⟩ = some (.int .i64 ms[i].1) ∧ w.cell? ⟨b, off + i * 2 + 1, none⟩ = some (.int .i64 ms[i].2)
theorem readsM_keep {w w' : World} {v : Value} {ms : List R.Mk} (h : ReadsM w v ms) (hk : ∀ (p : Addr) (u : Value), w.cell? p = some u → w'.cell? p = some u) : ReadsM w' v ms := by
  obtain ⟨a, cap, h1, h2, h3, hx⟩ := h
  refine ⟨a, cap, h1, h2, h3, fun i hi => ?_⟩
  obtain ⟨b, off, e, c0, c1⟩ := hx i hi
  exact ⟨b, off, e, hk _ _ c0, hk _ _ c1⟩
theorem readsM_below {w w' : World} {v : Value} {ms : List R.Mk} (h : ReadsM w v ms) (hb : Below w.heap.size w w') : ReadsM w' v ms := readsM_keep h (below_keeps hb)
def ReadsI (w : World) (v : Value) (zs : List Int) : Prop :=
  ∃ a cap, v = .slice a zs.length cap ∧ ∀ i (h : i < zs.length), i64B zs[i] ∧ ∃ b off, a = some ⟨b, off, none⟩ ∧ w.cell? ⟨b, off + i, none⟩ = some (.int .i64 zs[i])
theorem readsI_below {w w' : World} {v : Value} {zs : List Int} (h : ReadsI w v zs) (hb : Below w.heap.size w w') : ReadsI w' v zs := by
  obtain ⟨a, cap, h1, hx⟩ := h
  refine ⟨a, cap, h1, fun i hi => ?_⟩
  obtain ⟨hz, b, off, e, c⟩ := hx i hi
  exact ⟨hz, b, off, e, below_keeps hb _ _ c⟩

/-- What the types of entries are. -/
def EnTy (P : Program) (t tb tl te : TypeId) : Prop := ∃ e0 e1 e2 f0 f1 f2 f3 f4 g0 g1 : Field, P.underlying t = some (.struct #[e0, e1, e2]) ∧ (e0.offset = 0 ∧ e1.offset = 1 ∧ e2.offset = 2) ∧ (P.cellsOf e0.type = 1 ∧ P.cellsOf e1.type = 1 ∧ P.cellsOf e2.type = 5 ∧ P.cellsOf t = 7) ∧
  (P.underlying e0.type = some (.int .i64) ∧ P.underlying e1.type = some (.int .i64) ∧ e2.type = tb) ∧ P.underlying tb = some (.struct #[f0, f1, f2, f3, f4]) ∧ oneCellFields P #[f0, f1, f2, f3, f4] = true ∧ P.cellsOf tb = 5 ∧
  (P.underlying f0.type = some .string ∧ P.underlying f1.type = some (.int .i64) ∧ P.underlying f2.type = some (.int .i64) ∧ P.underlying f3.type = some (.int .i64) ∧ f4.type = tl) ∧
  P.underlying tl = some (.slice te) ∧ P.underlying te = some (.struct #[g0, g1]) ∧ oneCellFields P #[g0, g1] = true ∧ P.cellsOf te = 2 ∧ P.underlying g0.type = some .string ∧ P.underlying g1.type = some .string
theorem Tryz.enTy : EnTy Tryz.prog 53 51 49 92 :=
  ⟨_, _, _, _, _, _, _, _, _, _, Tryz.underlying53, ⟨rfl, rfl, rfl⟩, ⟨by kernel_rfl, by kernel_rfl, by kernel_rfl, by kernel_rfl⟩, ⟨Tryz.underlying3, Tryz.underlying3, rfl⟩, Tryz.underlying51, by kernel_rfl, by kernel_rfl,
    ⟨Tryz.underlying9, Tryz.underlying3, Tryz.underlying3, Tryz.underlying3, rfl⟩, Tryz.underlying49, Tryz.underlying92, by kernel_rfl, by kernel_rfl, Tryz.underlying9, Tryz.underlying9⟩

section
variable {H : Type} {enc : TypeId × Value → H} {P : Program} {w : World} {base : Nat} {spare : Nat → Bool} {held : Bool}
theorem open_entry {t tb tl te : TypeId} {fuel : Nat} {cs : List Value} {x : DataW H × List MemPlace} (hT : EnTy P t tb tl te) (h : DataW.trod enc P w base spare held fuel t cs = some x) :
    ∃ (e : R.En) (v : Value), cs = [.int .i64 e.pos, .int .i64 e.epoch, .string (B e.b.stream), .int .i64 e.b.expect, .int .i64 e.b.session, .int .i64 e.b.seq, v] ∧ ReadsE w v e.b.events ∧ i64B e.pos := by
  obtain ⟨e0, e1, e2, f0, f1, f2, f3, f4, g0, g1, ht, ⟨o0, o1, o2⟩, ⟨k0, k1, k2, kC⟩, ⟨i0, i1, i2⟩, hb, hone, hC, ⟨h0, h1, h2, h3, h4⟩, hl, hte, hone2, hC2, hg0, hg1⟩ := hT
  obtain ⟨xs, n, _, _, hcl, hxl, hf⟩ := DataW.trod_struct ht h
  have r0 := hf 0 e0 rfl
  have r1 := hf 1 e1 rfl
  have r2 := hf 2 e2 rfl
  rw [o0, k0] at r0
  rw [o1, k1] at r1
  rw [o2, k2, i2] at r2
  rw [kC] at hcl
  match cs, hcl, xs, hxl with
  | [a, b, c, d, e, f, g], _, [y0, y1, y2], _ =>
    simp at r0 r1 r2
    obtain ⟨s0, q0, _, w0⟩ := DataW.trod_int i0 r0
    obtain ⟨s1, q1, _, w1⟩ := DataW.trod_int i1 r1
    obtain ⟨bt, v, hbt, hre, _⟩ := open_batch hb hone hC h0 h1 h2 h3 h4 hl hte hone2 hC2 hg0 hg1 r2
    cases q0
    cases q1
    cases hbt
    exact ⟨⟨s0, s1, bt⟩, _, rfl, hre, i64_bd w0⟩
theorem arg_entry {r : Reach} {b0 : Nat} {t tb tl te : TypeId} {v : Value} {d : DataW H} {p : List MemPlace} (hT : EnTy P t tb tl te) (hv : Value.okWide P w r b0 t v) (h : DataW.Trod enc P w base spare held t v d p) :
    ∃ (e : R.En) (u : Value), v = enV e u ∧ ReadsE w u e.b.events ∧ i64B e.pos := by
  have hT2 := hT
  obtain ⟨_, _, _, _, _, _, _, _, _, _, ht, _⟩ := hT2
  obtain ⟨cs, rfl, _⟩ := okWide_struct ht hv
  obtain ⟨fuel, hf⟩ := h
  obtain ⟨e, u, he, hr, hp⟩ := open_entry hT hf
  refine ⟨e, u, ?_, hr, hp⟩
  obtain ⟨l⟩ := cs
  have he2 : l = [.int .i64 e.pos, .int .i64 e.epoch, .string (B e.b.stream), .int .i64 e.b.expect, .int .i64 e.b.session, .int .i64 e.b.seq, u] := he
  rw [he2]
theorem arg_entries {r : Reach} {b0 : Nat} {ts t tb tl te : TypeId} {v : Value} {d : DataW H} {p : List MemPlace} (hT : EnTy P t tb tl te) (hts : P.underlying ts = some (.slice t)) (hv : Value.okWide P w r b0 ts v) (h : DataW.Trod enc P w base spare held ts v d p) : ∃ es, ReadsR w v es := by
  obtain ⟨a0, len, cap, rfl⟩ := okWide_slice hts hv
  obtain ⟨fuel, hf⟩ := h
  have hC : P.cellsOf t = 7 := by obtain ⟨_, _, _, _, _, _, _, _, _, _, _, _, k, _⟩ := hT; exact k.2.2.2
  have hf2 : DataW.trod enc P w base spare held fuel ts [.slice a0 len cap] = some (d, p) := hf
  rcases open_slice hts hf2 with ⟨hcs, _⟩ | ⟨a, len1, cap1, m, n, D, Pl, hcs, hb, hle, hm, hmm, _, hi⟩
  · cases hcs
    exact ⟨[], none, 0, rfl, Nat.le_refl _, fun _ => rfl, fun i hi => by simp at hi⟩
  · cases hcs
    have hlm : len ≤ m := by rw [hmm]; split <;> omega
    have key : ∀ i, i < len → ∃ q : EV, ReadsE w q.2 q.1.b.events ∧ i64B q.1.pos ∧ w.cell? (a.add (i * 7)) = some (.int .i64 q.1.pos) ∧ w.cell? (a.add (i * 7 + 1)) = some (.int .i64 q.1.epoch) ∧ w.cell? (a.add (i * 7 + 2)) = some (.string (B q.1.b.stream)) ∧
        w.cell? (a.add (i * 7 + 3)) = some (.int .i64 q.1.b.expect) ∧ w.cell? (a.add (i * 7 + 4)) = some (.int .i64 q.1.b.session) ∧ w.cell? (a.add (i * 7 + 5)) = some (.int .i64 q.1.b.seq) ∧ w.cell? (a.add (i * 7 + 6)) = some q.2 := by
      intro i hil
      obtain ⟨cs, hc, hr⟩ := hi i (by omega)
      rw [hC] at hc
      obtain ⟨e, u, rfl, hre, hp⟩ := open_entry hT hr
      obtain ⟨_, _, hat⟩ := World.cells?_some hc
      have c0 := hat 0 (by omega)
      have c1 := hat 1 (by omega)
      have c2 := hat 2 (by omega)
      have c3 := hat 3 (by omega)
      have c4 := hat 4 (by omega)
      have c5 := hat 5 (by omega)
      have c6 := hat 6 (by omega)
      rw [Go.Deep.add_add] at c0 c1 c2 c3 c4 c5 c6
      exact ⟨(e, u), hre, hp, c0, c1, c2, c3, c4, c5, c6⟩
    obtain ⟨f, hf⟩ : ∃ f : Nat → EV, ∀ i, i < len → ReadsE w (f i).2 (f i).1.b.events ∧ i64B (f i).1.pos ∧ w.cell? (a.add (i * 7)) = some (.int .i64 (f i).1.pos) ∧ w.cell? (a.add (i * 7 + 1)) = some (.int .i64 (f i).1.epoch) ∧ w.cell? (a.add (i * 7 + 2)) = some (.string (B (f i).1.b.stream)) ∧
        w.cell? (a.add (i * 7 + 3)) = some (.int .i64 (f i).1.b.expect) ∧ w.cell? (a.add (i * 7 + 4)) = some (.int .i64 (f i).1.b.session) ∧ w.cell? (a.add (i * 7 + 5)) = some (.int .i64 (f i).1.b.seq) ∧ w.cell? (a.add (i * 7 + 6)) = some (f i).2 := by
      refine ⟨fun i => if h : i < len then Classical.choose (key i h) else (⟨0, 0, ⟨[], 0, 0, 0, []⟩⟩, .slice none 0 0), fun i hil => ?_⟩
      have hs := Classical.choose_spec (key i hil)
      simp only [dif_pos hil]
      exact hs
    obtain ⟨b, off, spot⟩ := a
    refine ⟨(List.range len).map f, some ⟨b, off, spot⟩, cap, by simp, by simpa using hle, fun h => (by cases h), fun i hi => ?_⟩
    have hil : i < len := by simpa using hi
    have hspot : spot = none := by simpa [Addr.add] using World.cell?_spot (hf 0 (by omega)).2.2.1
    subst hspot
    obtain ⟨hre, hp, c0, c1, c2, c3, c4, c5, c6⟩ := hf i hil
    rw [Go.WideShapes.add_plain] at c0 c1 c2 c3 c4 c5 c6
    have e1 : ((List.range len).map f)[i] = f i := by simp
    rw [e1]
    exact ⟨hre, hp, b, off, rfl, c0, c1, c2, c3, c4, c5, c6⟩
theorem open_mark {t : TypeId} {f0 f1 : Field} {fuel : Nat} {cs : List Value} {x : DataW H × List MemPlace} (ht : P.underlying t = some (.struct #[f0, f1])) (hone : oneCellFields P #[f0, f1] = true) (hC : P.cellsOf t = 2)
    (h0 : P.underlying f0.type = some (.int .i64)) (h1 : P.underlying f1.type = some (.int .i64)) (h : DataW.trod enc P w base spare held fuel t cs = some x) : ∃ m : R.Mk, cs = [.int .i64 m.1, .int .i64 m.2] := by
  obtain ⟨hl, n, hf⟩ := fields_one ht hone hC h
  obtain ⟨v0, y0, c0, r0⟩ := hf 0 f0 rfl
  obtain ⟨v1, y1, c1, r1⟩ := hf 1 f1 rfl
  obtain ⟨s0, e0, _⟩ := DataW.trod_int h0 r0
  obtain ⟨s1, e1, _⟩ := DataW.trod_int h1 r1
  cases e0
  cases e1
  refine ⟨(s0, s1), ?_⟩
  match cs, hl with
  | [a, b], _ =>
    cases c0
    cases c1
    rfl
theorem arg_marks {r : Reach} {b0 : Nat} {ts t : TypeId} {f0 f1 : Field} {v : Value} {d : DataW H} {p : List MemPlace} (hts : P.underlying ts = some (.slice t)) (ht : P.underlying t = some (.struct #[f0, f1])) (hone : oneCellFields P #[f0, f1] = true) (hC : P.cellsOf t = 2)
    (h0 : P.underlying f0.type = some (.int .i64)) (h1 : P.underlying f1.type = some (.int .i64)) (hv : Value.okWide P w r b0 ts v) (h : DataW.Trod enc P w base spare held ts v d p) : ∃ ms, ReadsM w v ms := by
  obtain ⟨a0, len, cap, rfl⟩ := okWide_slice hts hv
  obtain ⟨fuel, hf⟩ := h
  have hf2 : DataW.trod enc P w base spare held fuel ts [.slice a0 len cap] = some (d, p) := hf
  rcases open_slice hts hf2 with ⟨hcs, _⟩ | ⟨a, len1, cap1, m, n, D, Pl, hcs, hb, hle, hm, hmm, _, hi⟩
  · cases hcs
    exact ⟨[], none, 0, rfl, Nat.le_refl _, fun _ => rfl, fun i hi => by simp at hi⟩
  · cases hcs
    have hlm : len ≤ m := by rw [hmm]; split <;> omega
    have key : ∀ i, i < len → ∃ q : R.Mk, w.cell? (a.add (i * 2)) = some (.int .i64 q.1) ∧ w.cell? (a.add (i * 2 + 1)) = some (.int .i64 q.2) := by
      intro i hil
      obtain ⟨cs, hc, hr⟩ := hi i (by omega)
      rw [hC] at hc
      obtain ⟨e, rfl⟩ := open_mark ht hone hC h0 h1 hr
      obtain ⟨_, _, hat⟩ := World.cells?_some hc
      have c0 := hat 0 (by omega)
      have c1 := hat 1 (by omega)
      rw [Go.Deep.add_add] at c0 c1
      exact ⟨e, c0, c1⟩
    obtain ⟨f, hf⟩ : ∃ f : Nat → R.Mk, ∀ i, i < len → w.cell? (a.add (i * 2)) = some (.int .i64 (f i).1) ∧ w.cell? (a.add (i * 2 + 1)) = some (.int .i64 (f i).2) := by
      refine ⟨fun i => if h : i < len then Classical.choose (key i h) else (0, 0), fun i hil => ?_⟩
      have hs := Classical.choose_spec (key i hil)
      simp only [dif_pos hil]
      exact hs
    obtain ⟨b, off, spot⟩ := a
    refine ⟨(List.range len).map f, some ⟨b, off, spot⟩, cap, by simp, by simpa using hle, fun h => (by cases h), fun i hi => ?_⟩
    have hil : i < len := by simpa using hi
    have hspot : spot = none := by simpa [Addr.add] using World.cell?_spot (hf 0 (by omega)).1
    subst hspot
    obtain ⟨c0, c1⟩ := hf i hil
    rw [Go.WideShapes.add_plain] at c0 c1
    have e1 : ((List.range len).map f)[i] = f i := by simp
    rw [e1]
    exact ⟨b, off, rfl, c0, c1⟩
theorem arg_ints {r : Reach} {b0 : Nat} {ts t : TypeId} {v : Value} {d : DataW H} {p : List MemPlace} (hts : P.underlying ts = some (.slice t)) (ht : P.underlying t = some (.int .i64)) (hC : P.cellsOf t = 1)
    (hv : Value.okWide P w r b0 ts v) (h : DataW.Trod enc P w base spare held ts v d p) : ∃ zs, ReadsI w v zs := by
  obtain ⟨a0, len, cap, rfl⟩ := okWide_slice hts hv
  obtain ⟨fuel, hf⟩ := h
  have hf2 : DataW.trod enc P w base spare held fuel ts [.slice a0 len cap] = some (d, p) := hf
  rcases open_slice hts hf2 with ⟨hcs, _⟩ | ⟨a, len1, cap1, m, n, D, Pl, hcs, hb, hle, hm, hmm, _, hi⟩
  · cases hcs
    exact ⟨[], none, 0, rfl, fun i hi => by simp at hi⟩
  · cases hcs
    have hlm : len ≤ m := by rw [hmm]; split <;> omega
    have key : ∀ i, i < len → ∃ q : Int, i64B q ∧ w.cell? (a.add i) = some (.int .i64 q) := by
      intro i hil
      obtain ⟨cs, hc, hr⟩ := hi i (by omega)
      rw [hC] at hc
      obtain ⟨_, hl1, hat⟩ := World.cells?_some hc
      have c0 := hat 0 (by omega)
      rw [Go.Deep.add_add] at c0
      match cs, hl1 with
      | [x], _ =>
        obtain ⟨s0, q0, _, w0⟩ := DataW.trod_int ht hr
        cases q0
        exact ⟨s0, i64_bd w0, by simpa using c0⟩
    obtain ⟨f, hf⟩ : ∃ f : Nat → Int, ∀ i, i < len → i64B (f i) ∧ w.cell? (a.add i) = some (.int .i64 (f i)) := by
      refine ⟨fun i => if h : i < len then Classical.choose (key i h) else 0, fun i hil => ?_⟩
      have hs := Classical.choose_spec (key i hil)
      simp only [dif_pos hil]
      exact hs
    obtain ⟨b, off, spot⟩ := a
    refine ⟨(List.range len).map f, some ⟨b, off, spot⟩, cap, by simp, fun i hi => ?_⟩
    have hil : i < len := by simpa using hi
    have hspot : spot = none := by simpa [Addr.add] using World.cell?_spot (hf 0 (by omega)).2
    subst hspot
    obtain ⟨hz, c0⟩ := hf i hil
    rw [Go.WideShapes.add_plain] at c0
    have e1 : ((List.range len).map f)[i] = f i := by simp
    rw [e1]
    exact ⟨hz, b, off, rfl, c0⟩
end
end Go.Proofs.YtmfhipjceeijmaaGreatDoor

/-
  Walks of package record: rows of marks of the call's own, and inForce.
-/
namespace Go.Proofs.YtmfhipjceeijmaaGreatDoor
open Go.RowKit
attribute [local go_sem] ext_Bd ext_Bl ext_Bt toList_B add_B size_B get_Bt

/-- The cells of marks that lie in a row. -/
def mkCells (ms : List R.Mk) : List Value := ms.flatMap fun m => [.int .i64 m.1, .int .i64 m.2]
theorem mkCells_len : ∀ (ms : List R.Mk), (mkCells ms).length = ms.length * 2
  | [] => rfl
  | m :: ms => by
    have h := mkCells_len ms
    unfold mkCells at h ⊢
    rw [List.flatMap_cons, List.length_append, h]
    simp only [List.length_cons, List.length_nil]
    omega
theorem mkCells_snoc (ms : List R.Mk) (m : R.Mk) : mkCells (ms ++ [m]) = mkCells ms ++ [.int .i64 m.1, .int .i64 m.2] := by simp [mkCells]
theorem mkCells_take : ∀ (ms : List R.Mk) (j : Nat), mkCells (ms.take j) = (mkCells ms).take (j * 2)
  | [], j => by simp [mkCells]
  | m :: ms, 0 => by simp [mkCells]
  | m :: ms, j + 1 => by
    have h := mkCells_take ms j
    have e1 : mkCells (m :: ms) = .int .i64 m.1 :: .int .i64 m.2 :: mkCells ms := by simp [mkCells]
    have e2 : mkCells (m :: ms.take j) = .int .i64 m.1 :: .int .i64 m.2 :: mkCells (ms.take j) := by simp [mkCells]
    rw [List.take_succ_cons, e1, e2, h, show (j + 1) * 2 = j * 2 + 1 + 1 by omega, List.take_succ_cons, List.take_succ_cons]
theorem mkCells_get : ∀ (ms : List R.Mk) (i : Nat) (h : i < ms.length), (mkCells ms)[i * 2]? = some (.int .i64 ms[i].1) ∧ (mkCells ms)[i * 2 + 1]? = some (.int .i64 ms[i].2)
  | m :: ms, 0, _ => ⟨rfl, rfl⟩
  | m :: ms, i + 1, h => by
    have ih := mkCells_get ms i (by simpa using h)
    have e1 : mkCells (m :: ms) = .int .i64 m.1 :: .int .i64 m.2 :: mkCells ms := by simp [mkCells]
    rw [e1, show (i + 1) * 2 = i * 2 + 1 + 1 by omega]
    exact ih
/-- A row of which less is looked at. -/
theorem own_less {w : World} {base : Nat} {e : TypeId} {s g n m cap : Nat} {xs : List Value} (h : w.ownsRow base e s (.slice (some ⟨g, 0, none⟩) n cap) n xs) (hm : m ≤ n) : w.ownsRow base e s (.slice (some ⟨g, 0, none⟩) m cap) m (xs.take (m * s)) := by
  obtain ⟨h1, h2⟩ := h
  rcases h2 with ⟨h2, _⟩ | ⟨g2, cap2, cur, hv, hb, hg, hn, hc, hs, ht⟩
  · cases h2
  · cases hv
    have hms : m * s ≤ n * s := Nat.mul_le_mul_right _ hm
    refine ⟨by rw [List.length_take, h1]; omega, .inr ⟨g, cap, cur, rfl, hb, hg, by omega, hc, hs, ?_⟩⟩
    rw [← ht, List.take_take, Nat.min_eq_left hms]
theorem own_drewN {w : World} {base : Nat} {e : TypeId} {s : Nat} {v : Value} {n : Nat} {xs : List Value} (h : w.ownsRow base e s v n xs) (k : Nat) : (w.drewN k).ownsRow base e s v n xs := h
theorem own_slice {w : World} {base : Nat} {e : TypeId} {s : Nat} {v : Value} {n : Nat} {xs : List Value} (h : w.ownsRow base e s v n xs) : ∃ a cap, v = .slice a n cap ∧ n ≤ cap := by
  rcases h.2 with ⟨rfl, h0⟩ | ⟨g, cap, cur, rfl, _, _, hc, _⟩
  · exact ⟨none, 0, by rw [h0], by omega⟩
  · exact ⟨_, cap, rfl, hc⟩

theorem below_keeps2 {w0 w : World} {p : Addr} {u : Value} (hb : Below w0.heap.size w0 w) (h : w0.cell? p = some u) : w.cell? p = some u := below_keeps hb p u h
def sliceLen : Value → Nat
  | .slice _ n _ => n
  | _ => 0

end Go.Proofs.YtmfhipjceeijmaaGreatDoor

/-
  Walk of package record: Marks.
-/
namespace Go.Proofs.YtmfhipjceeijmaaGreatDoor
open Go.RowKit
attribute [local go_sem] ext_Bd ext_Bl ext_Bt toList_B add_B size_B get_Bt

abbrev ensOf (es : List EV) : List R.En := es.map (·.1)
theorem ensOf_len (es : List EV) : (ensOf es).length = es.length := List.length_map _
theorem readsE_form {w : World} {v : Value} {evs : List E.Ev} (h : ReadsE w v evs) : ∃ a n c, v = .slice a n c := by
  obtain ⟨a, c, rfl, _⟩ := h
  exact ⟨a, _, c, rfl⟩
theorem box_cells (wr : World) (cs : Array Value) (t : TypeId) (j : Nat) : (wr.alloc (.cells cs t)).cell? ⟨wr.heap.size, j, none⟩ = cs[j]? := by rw [World.cell?_alloc_new]

end Go.Proofs.YtmfhipjceeijmaaGreatDoor

/-
  Walks of Right, of package record and of the document's answer.
-/
namespace Go.Proofs.YtmfhipjceeijmaaGreatDoor
open Go.RowKit
attribute [local go_sem] ext_Bd ext_Bl ext_Bt toList_B add_B size_B get_Bt

set_option maxRecDepth 100000 in
theorem between6_at (n lo hi : Int) (r : Bool) (w : World) (H : Hid (decide (lo ≤ n ∧ n ≤ hi) = r)) :
    Calls Tryz.prog 144 #[.int .i64 n, .int .i64 lo, .int .i64 hi] w fun x w' => x = .returned (.bool r) ∧ w = w' := by
  by_cases h1 : lo ≤ n
  · by_cases h2 : n ≤ hi
    · have HE := Lib.hid (show r = true by rw [← H.out]; exact decide_eq_true ⟨h1, h2⟩)
      go_enter Tryz.func144, Tryz.ntmps144
      go_wp2
      go_ret
      rw [HE.out]
      exact ⟨rfl, rfl⟩
    · have HE := Lib.hid (show r = false by rw [← H.out]; exact decide_eq_false fun h => h2 h.2)
      have h3 : decide (n ≤ hi) = false := decide_eq_false h2
      clear h2
      go_enter Tryz.func144, Tryz.ntmps144
      go_wp2
      go_ret
      rw [HE.out]
      exact ⟨rfl, rfl⟩
  · have HE := Lib.hid (show r = false by rw [← H.out]; exact decide_eq_false fun h => h1 h.1)
    have h3 : decide (lo ≤ n) = false := decide_eq_false h1
    clear h1
    go_enter Tryz.func144, Tryz.ntmps144
    go_wp2
    go_ret
    rw [HE.out]
    exact ⟨rfl, rfl⟩

theorem right_parts (e : R.En) : R.right e = (decide (1 ≤ e.pos ∧ e.pos ≤ 274877906944) && (decide (1 ≤ e.epoch ∧ e.epoch ≤ 274877906944) && decide (E.fits e.b = 0))) := by
  unfold R.right R.large
  simp only [Bool.decide_and, Bool.and_assoc]

set_option maxHeartbeats 1000000 in
set_option maxRecDepth 100000 in
theorem Right6_at (e : R.En) (v : Value) (r : Bool) (w : World) (hv : ReadsE w v e.b.events) (hs : E.Small e.b) (H : Hid (R.right e = r)) :
    Calls Tryz.prog 118 #[enV e v] w fun x w' => x = .returned (.bool r) ∧ Below w.heap.size w w' := by
  obtain ⟨r1, H1⟩ : ∃ n, Hid (decide (1 ≤ e.pos ∧ e.pos ≤ 274877906944) = n) := ⟨_, Lib.hid rfl⟩
  obtain ⟨r2, H2⟩ : ∃ n, Hid (decide (1 ≤ e.epoch ∧ e.epoch ≤ 274877906944) = n) := ⟨_, Lib.hid rfl⟩
  obtain ⟨f, HF⟩ : ∃ n, Hid (E.fits e.b = n) := ⟨_, Lib.hid rfl⟩
  have HR : Hid (r = (r1 && (r2 && decide (f = 0)))) := Lib.hid (by rw [← H.out, ← H1.out, ← H2.out, ← HF.out]; exact right_parts e)
  clear H
  have HS := Lib.hid hs
  have HV := Lib.hid hv
  have hB : ∀ o, Below w.heap.size w (w.alloc o) := fun o => (Below.refl _ w).alloc (Nat.le_refl _) o
  obtain ⟨a, cap, rfl, _⟩ := hv
  clear hs
  go_enter Tryz.func118, Tryz.ntmps118
  go_wp2_with fail
  refine (between6_at e.pos 1 274877906944 r1 _ H1).mono ?_
  rintro x w2 ⟨rfl, rfl⟩
  cases r1
  · go_wp2
    go_ret
    rw [HR.out]
    exact ⟨rfl, hB _⟩
  go_wp2_with fail
  refine (between6_at e.epoch 1 274877906944 r2 _ H2).mono ?_
  rintro x w2 ⟨rfl, rfl⟩
  cases r2
  · go_wp2
    go_ret
    rw [HR.out]
    exact ⟨rfl, hB _⟩
  go_wp2_with fail
  refine (Fits_at e.b _ f _ (readsE_below HV.out (hB _)) HS.out HF).mono ?_
  rintro x w2 ⟨rfl, hb2⟩
  have hb := below_box hb2
  clear hb2
  by_cases h0 : f = 0
  · subst h0
    go_wp2
    go_ret
    rw [HR.out]
    exact ⟨rfl, hb⟩
  · have hfi : ((f : Int) == 0) = false := beq_eq_false_iff_ne.2 (by omega)
    have HE := Lib.hid (show r = false by rw [HR.out, decide_eq_false h0]; rfl)
    clear h0
    go_wp2
    go_ret
    rw [HE.out]
    exact ⟨rfl, hb⟩
end Go.Proofs.YtmfhipjceeijmaaGreatDoor

/-
  Walks of plain, light and small of the statements' package.
-/
namespace Go.Proofs.YtmfhipjceeijmaaGreatDoor
open Go.RowKit
attribute [local go_sem] ext_Bd ext_Bl ext_Bt toList_B add_B size_B get_Bt

/-- A right entry. -/
def plainE (pos epoch : Int) : R.En := ⟨pos, epoch, ⟨[115], 0, 1, 1, [([107], [])]⟩⟩
theorem plain_b (pos epoch : Int) : (plainE pos epoch).b = ⟨[115], 0, 1, 1, [([107], [])]⟩ := rfl
theorem plain_fits (pos epoch : Int) : E.fits (plainE pos epoch).b = 0 := by rw [plain_b]; decide +kernel
theorem plain_right {pos epoch : Int} (h1 : 1 ≤ pos) (h2 : pos ≤ 274877906944) (h3 : 1 ≤ epoch) (h4 : epoch ≤ 274877906944) : R.right (plainE pos epoch) = true :=
  R.right_iff.2 ⟨h1, h2, h3, h4, plain_fits pos epoch⟩
theorem plain_small (pos epoch : Int) : E.Small (plainE pos epoch).b := by
  rw [plain_b]
  refine E.Small.of (by decide) (fun e he => ?_)
  simp at he
  subst he
  decide


def R.Light (b : E.Bat) : Prop := b.stream.length ≤ 300 ∧ b.events.length ≤ 20 ∧ ∀ e ∈ b.events, e.1.length ≤ 300 ∧ e.2.length ≤ 500
theorem light_small {b : E.Bat} (h : R.Light b) : E.Small b :=
  E.Small.of (by have := h.1; omega) (fun e he => by have := h.2.2 e he; omega)


end Go.Proofs.YtmfhipjceeijmaaGreatDoor

/-
  Rows of entries of the call's own, and plain entries in them.
-/
namespace Go.Proofs.YtmfhipjceeijmaaGreatDoor
open Go.RowKit
attribute [local go_sem] ext_Bd ext_Bl ext_Bt toList_B add_B size_B get_Bt

abbrev evCells7 (p : EV) : List Value := [.int .i64 p.1.pos, .int .i64 p.1.epoch, .string (B p.1.b.stream), .int .i64 p.1.b.expect, .int .i64 p.1.b.session, .int .i64 p.1.b.seq, p.2]
/-- The cells of entries that lie in a row. -/
def enCells (es : List EV) : List Value := es.flatMap evCells7
theorem enCells_len : ∀ (es : List EV), (enCells es).length = es.length * 7
  | [] => rfl
  | p :: es => by
    have h := enCells_len es
    unfold enCells at h ⊢
    rw [List.flatMap_cons, List.length_append, h]
    simp only [List.length_cons, List.length_nil]
    omega
theorem enCells_snoc (es : List EV) (p : EV) : enCells (es ++ [p]) = enCells es ++ evCells7 p := by simp [enCells]
theorem enCells_append (es fs : List EV) : enCells (es ++ fs) = enCells es ++ enCells fs := by simp [enCells]
theorem enCells_get : ∀ (es : List EV) (i : Nat) (h : i < es.length), (enCells es)[i * 7]? = some (.int .i64 es[i].1.pos) ∧ (enCells es)[i * 7 + 1]? = some (.int .i64 es[i].1.epoch) ∧ (enCells es)[i * 7 + 2]? = some (.string (B es[i].1.b.stream)) ∧ (enCells es)[i * 7 + 3]? = some (.int .i64 es[i].1.b.expect) ∧
    (enCells es)[i * 7 + 4]? = some (.int .i64 es[i].1.b.session) ∧ (enCells es)[i * 7 + 5]? = some (.int .i64 es[i].1.b.seq) ∧ (enCells es)[i * 7 + 6]? = some es[i].2
  | p :: es, 0, _ => ⟨rfl, rfl, rfl, rfl, rfl, rfl, rfl⟩
  | p :: es, i + 1, h => by
    have ih := enCells_get es i (by simpa using h)
    have e1 : enCells (p :: es) = .int .i64 p.1.pos :: .int .i64 p.1.epoch :: .string (B p.1.b.stream) :: .int .i64 p.1.b.expect :: .int .i64 p.1.b.session :: .int .i64 p.1.b.seq :: p.2 :: enCells es := by simp [enCells]
    rw [e1, show (i + 1) * 7 = i * 7 + 1 + 1 + 1 + 1 + 1 + 1 + 1 by omega]
    exact ih
theorem Tryz.infoEn : (Tryz.prog.info? 53).map (fun i => (i.zero, i.size, i.bytes)) = some (some (.agg #[.int .i64 0, .int .i64 0, .string ⟨#[]⟩, .int .i64 0, .int .i64 0, .int .i64 0, .slice none 0 0]), 7, 80) := by kernel_rfl
theorem own_entry {w : World} {base : Nat} {v : Value} {es : List EV} (h : w.ownsRow base 53 7 v es.length (enCells es)) (i : Nat) (hi : i < es.length) :
    ∃ g cap, v = .slice (some ⟨g, 0, none⟩) es.length cap ∧ es.length ≤ cap ∧ At7 w g (i * 7) es[i].1 es[i].2 := by
  obtain ⟨c0, c1, c2, c3, c4, c5, c6⟩ := enCells_get es i hi
  rcases h.2 with ⟨_, h0⟩ | ⟨g, cap, cur, rfl, _, _, hc, _⟩
  · omega
  · have key : ∀ j, j < 7 → w.cell? ⟨g, i * 7 + j, none⟩ = (enCells es)[i * 7 + j]? := fun j hj => h.cellAt (i * 7 + j) (by omega)
    exact ⟨g, cap, rfl, hc, (key 0 (by omega)).trans c0, (key 1 (by omega)).trans c1, (key 2 (by omega)).trans c2, (key 3 (by omega)).trans c3, (key 4 (by omega)).trans c4, (key 5 (by omega)).trans c5, (key 6 (by omega)).trans c6⟩
theorem readsR_own {w : World} {base : Nat} {v : Value} {es : List EV} (h : w.ownsRow base 53 7 v es.length (enCells es)) (he : ∀ p ∈ es, ReadsE w p.2 p.1.b.events ∧ i64B p.1.pos) : ReadsR w v es := by
  rcases h.2 with ⟨rfl, h0⟩ | ⟨g, cap, cur, rfl, _, _, hc, _⟩
  · exact ⟨none, 0, by rw [h0], by omega, fun _ => rfl, fun i hi => by omega⟩
  · refine ⟨some ⟨g, 0, none⟩, cap, rfl, hc, fun h => (by cases h), fun i hi => ?_⟩
    obtain ⟨g2, c2, hv, _, h7⟩ := own_entry h i hi
    cases hv
    have := he _ (List.getElem_mem hi)
    exact ⟨this.1, this.2, g, 0, rfl, by rw [Nat.zero_add]; exact h7⟩

abbrev evObj : Obj := .cells #[.string ⟨#[107]⟩, .string ⟨#[]⟩] 92 (0, 0)
theorem reads_evObj {w : World} {g : Nat} (h : w.heap[g]? = some evObj) : ReadsE w (.slice (some ⟨g, 0, none⟩) 1 1) [([107], [])] := by
  refine ⟨_, 1, rfl, Nat.le_refl _, fun h => (by cases h), fun i hi => ?_⟩
  obtain rfl : i = 0 := by simpa using hi
  exact ⟨g, 0, rfl, by simp [World.cell?, h]; rfl, by simp [World.cell?, h]; rfl⟩

abbrev plainB : E.Bat := ⟨[115], 0, 1, 1, [([107], [])]⟩
/-- A row of plain entries, from base on. -/
structure PlRow (base : Nat) (l : List R.En) (v : Value) (wr : World) (es : List EV) : Prop where
  ens : ensOf es = l
  own : wr.ownsRow base 53 7 v es.length (enCells es)
  ev : ∀ p ∈ es, i64B p.1.pos ∧ p.1.b = plainB ∧ ∃ g, p.2 = .slice (some ⟨g, 0, none⟩) 1 1 ∧ wr.heap[g]? = some evObj
theorem PlRow.nil (base : Nat) (wr : World) : PlRow base [] (.slice none 0 0) wr [] := ⟨rfl, World.ownsRow_nil _ _ _ _, fun p hp => by simp at hp⟩
theorem PlRow.below {base : Nat} {l : List R.En} {v : Value} {wr w' : World} {es : List EV} (h : PlRow base l v wr es) (hb : Below wr.heap.size wr w') : PlRow base l v w' es := by
  refine ⟨h.ens, own_below5 h.own hb, fun p hp => ?_⟩
  obtain ⟨h1, h2, g, h3, h4⟩ := h.ev p hp
  exact ⟨h1, h2, g, h3, (hb.block g (lt_of_block h4)).trans h4⟩
theorem PlRow.reads {base : Nat} {l : List R.En} {v : Value} {wr : World} {es : List EV} (h : PlRow base l v wr es) : ReadsR wr v es := by
  refine readsR_own h.own fun p hp => ?_
  obtain ⟨h1, h2, g, h3, h4⟩ := h.ev p hp
  rw [h2, h3]
  exact ⟨reads_evObj h4, h1⟩
theorem PlRow.small {base : Nat} {l : List R.En} {v : Value} {wr : World} {es : List EV} (h : PlRow base l v wr es) : ∀ x ∈ es, E.Small x.1.b := fun x hx => by
  rw [(h.ev x hx).2.1]
  exact plain_small 0 0
theorem PlRow.len {base : Nat} {l : List R.En} {v : Value} {wr : World} {es : List EV} (h : PlRow base l v wr es) : es.length = l.length := by rw [← h.ens, ensOf_len]
/-- A plain entry more: it was made (w1), put into a slice of one (the new block), and appended (w2). -/
theorem PlRow.next {base : Nat} {l : List R.En} {v v' : Value} {wr w2 : World} {es : List EV} {pos ep : Int} {g : Nat} {o : Obj} (h : PlRow base l v wr es) (hg : wr.heap[g]? = some evObj) (hp : i64B pos)
    (hown : w2.ownsRow base 53 7 v' (es.length + 1) (enCells es ++ [.int .i64 pos, .int .i64 ep, .string (B [115]), .int .i64 0, .int .i64 1, .int .i64 1, .slice (some ⟨g, 0, none⟩) 1 1])) (hgr : (wr.alloc o).grownBy w2 v.ownBlock) :
    PlRow base (l ++ [plainE pos ep]) v' w2 (es ++ [(plainE pos ep, .slice (some ⟨g, 0, none⟩) 1 1)]) := by
  have key : ∀ g, wr.heap[g]? = some evObj → w2.heap[g]? = some evObj := fun g hh => by
    have hl := lt_of_block hh
    rw [hgr.block g (by simp; omega) (fun e => ?_), Below.heap_alloc _ _ _ hl]
    · exact hh
    · rcases h.own.2 with ⟨rfl, _⟩ | ⟨g2, cap, cur, rfl, _, hh2, _⟩
      · cases e
      · have e2 : g2 = g := by simpa [Value.ownBlock] using e.symm
        subst e2
        rw [hh2] at hh
        cases hh
  refine ⟨by simp [ensOf, ← h.ens], by rw [enCells_snoc, List.length_append]; exact hown, fun p hp2 => ?_⟩
  rcases List.mem_append.1 hp2 with hp2 | hp2
  · obtain ⟨h1, h2, g3, h3, h4⟩ := h.ev p hp2
    exact ⟨h1, h2, g3, h3, key g3 h4⟩
  · rw [List.mem_singleton] at hp2
    subst hp2
    exact ⟨hp, rfl, g, rfl, key g hg⟩
end Go.Proofs.YtmfhipjceeijmaaGreatDoor

/-
  Walks of package record: the closures that tell epochs of places that do not fall.
-/
namespace Go.Proofs.YtmfhipjceeijmaaGreatDoor
open Go.RowKit
attribute [local go_sem] ext_Bd ext_Bl ext_Bt toList_B add_B size_B get_Bt

/-- All blocks but some are as they were. -/
structure But (S : Nat → Prop) (w w' : World) : Prop where
  os : w'.os = w.os
  tape : w'.tape = w.tape
  output : w'.output = w.output
  size : w.heap.size ≤ w'.heap.size
  block : ∀ k, k < w.heap.size → ¬ S k → w'.heap[k]? = w.heap[k]?
theorem But.refl (S : Nat → Prop) (w : World) : But S w w := ⟨rfl, rfl, rfl, Nat.le_refl _, fun _ _ _ => rfl⟩
theorem But.trans {S : Nat → Prop} {a b c : World} (h : But S a b) (k : But S b c) : But S a c :=
  ⟨k.os.trans h.os, k.tape.trans h.tape, k.output.trans h.output, Nat.le_trans h.size k.size, fun i hi hs => (k.block i (Nat.lt_of_lt_of_le hi h.size) hs).trans (h.block i hi hs)⟩
theorem But.mono {S T : Nat → Prop} {a b : World} (h : But S a b) (hst : ∀ k, S k → T k) : But T a b := ⟨h.os, h.tape, h.output, h.size, fun k hk hs => h.block k hk fun h2 => hs (hst k h2)⟩
theorem But.of_below {S : Nat → Prop} {w w' : World} (h : Below w.heap.size w w') : But S w w' := ⟨h.os, h.tape, h.output, h.size, fun k hk _ => h.block k hk⟩
theorem But.drewN {S : Nat → Prop} {a w : World} (h : But S a w) (n : Nat) : But S a (w.drewN n) := ⟨h.os, h.tape, h.output, h.size, h.block⟩
theorem But.setCell {S : Nat → Prop} {a w : World} (h : But S a w) {p : Addr} (hp : S p.block) (u : Value) : But S a (w.setCell p u) := by
  refine ⟨h.os, h.tape, h.output, by simpa using h.size, fun k hk hs => ?_⟩
  rw [Below.heap_setCell w p u k (fun e => hs (by rw [e]; exact hp))]
  exact h.block k hk hs
theorem But.below {S : Nat → Prop} {w w' : World} {m : Nat} (h : But S w w') (hm : m ≤ w.heap.size) (hs : ∀ k, S k → m ≤ k) : Below m w w' :=
  ⟨h.os, h.tape, h.output, h.size, fun k hk => h.block k (by omega) fun h2 => by have := hs k h2; omega⟩
theorem But.at {S : Nat → Prop} {w w' : World} {k : Nat} {o : Obj} (h : But S w w') (hk : w.heap[k]? = some o) (hs : ¬ S k) : w'.heap[k]? = some o := by
  rw [h.block k (lt_of_block hk) hs]; exact hk
theorem cell_same {w w' : World} {p : Addr} {u : Value} (h : w.cell? p = some u) (hb : w'.heap[p.block]? = w.heap[p.block]?) : w'.cell? p = some u := by
  rw [World.cell?_of_block (w := w) hb]; exact h

end Go.Proofs.YtmfhipjceeijmaaGreatDoor

/-
  Walks of package record: found, the closure of strayFrom, Follows.
-/
namespace Go.Proofs.YtmfhipjceeijmaaGreatDoor
open Go.RowKit
attribute [local go_sem] ext_Bd ext_Bl ext_Bt toList_B add_B size_B get_Bt

/-- found, of a closure that keeps a state of its own: it tells whether one of the entries, in their order, was wrong. -/
theorem found_run (fn : Nat) (caps : Array Value) (es : List EV) (v : Value) (w : World) (St : Nat → World → Prop) (bad : Nat → Bool) (hfn : fn = 136 ∨ fn = 136) (hl : es.length ≤ 1000) (hv : ReadsR w v es)
    (hrd : ∀ k wr, St k wr → ReadsR wr v es)
    (hal : ∀ k wr o, St k wr → St k (wr.alloc o))
    (hstep : ∀ k wr (h : k < es.length), St k wr → (∀ i, i < k → bad i = false) → Calls Tryz.prog fn (#[enV es[k].1 es[k].2] ++ caps) wr fun x w' => x = .returned (.bool (bad k)) ∧ St (k + 1) w') (h0 : St 0 w) :
    Calls Tryz.prog 105 #[v, .func (.func fn) #[] caps] w fun x w' => ((x = .returned (.bool true) ∧ ∃ k, k < es.length ∧ bad k = true ∧ ∀ i, i < k → bad i = false) ∨ (x = .returned (.bool false) ∧ ∀ i, i < es.length → bad i = false)) ∧ ∃ k, St k w' := by
  obtain ⟨a, cap, rfl, _⟩ := hv
  have HRD := Lib.hid hrd
  have HAL := Lib.hid hal
  have HST := Lib.hid hstep
  have H0 := Lib.hid h0
  clear hrd hal hstep h0
  go_enter Tryz.func105, Tryz.ntmps105
  go_wp2
  go_loopw [9] (fun i wr => ∃ k : Nat, i = .int .i64 k ∧ k ≤ es.length ∧ St k wr ∧ ∀ i, i < k → bad i = false) (fun i _ => es.length - (intOf i).toNat)
  case atStart => exact ⟨0, rfl, Nat.zero_le _, H0.out, fun i hi => absurd hi (Nat.not_lt_zero _)⟩
  case round =>
    obtain ⟨k, rfl, hk, hst, hbad⟩ := hrel
    have HS := Lib.hid hst
    have HB := Lib.hid hbad
    clear hst hbad
    by_cases hlt : k < es.length
    · obtain ⟨a2, cap2, hve, _, _, hx⟩ := HRD.out k wr HS.out
      cases hve
      obtain ⟨hre, -, b1, o1, rfl, h7⟩ := hx k hlt
      have hi1 : (k : Int) < (es.length : Int) := by omega
      obtain ⟨ea, en, ec, hu⟩ := readsE_form hre
      have HCL := Lib.hid fun o => HST.out k (wr.alloc o) hlt (HAL.out _ _ o HS.out) HB.out
      clear hre hx
      generalize es[k] = pe at *
      obtain ⟨e, u⟩ := pe
      dsimp only at h7 hu HCL
      subst hu
      obtain ⟨c0, c1, c2, c3, c4, c5, c6⟩ := h7
      obtain ⟨q, HQ⟩ : ∃ q, Hid (bad k = q) := ⟨_, Lib.hid rfl⟩
      rw [HQ.out] at HCL
      rcases hfn with rfl | rfl
      all_goals
        go_wp2_with fail
        refine (HCL.out _).mono ?_
        rintro x w2 ⟨rfl, hs2⟩
        have HS2 := Lib.hid hs2
        clear hs2
        cases q
        · go_wp2
          go_roundw
          case rel => exact ⟨k + 1, by go_num, by omega, HS2.out, fun i hi => by
            rcases Nat.lt_succ_iff_lt_or_eq.1 hi with h | rfl
            · exact HB.out i h
            · exact HQ.out⟩
          case measure => simp [intOf]; omega
        · go_wp2
          go_ret
          exact ⟨.inl ⟨rfl, k, hlt, HQ.out, HB.out⟩, _, HS2.out⟩
    · go_wp2
      go_ret
      exact ⟨.inr ⟨rfl, fun i hi => HB.out i (by omega)⟩, _, HS.out⟩

abbrev cloS (g1 g2 : Nat) : Value := .func (.func 136) #[] #[.pointer (some ⟨g1, 0, none⟩), .pointer (some ⟨g2, 0, none⟩)]
/-- The two variables of a closure of strayFrom. -/
def StrayAt (w0 : World) (g1 g2 : Nat) (p q : Int) (a : World) : Prop :=
  a.heap[g1]? = some (.cells #[.int .i64 p] 3 (0, 0)) ∧ a.heap[g2]? = some (.cells #[.int .i64 q] 3 (0, 0)) ∧ g1 < g2 ∧ w0.heap.size ≤ g1 ∧ Below w0.heap.size w0 a
theorem StrayAt.step {w0 a b : World} {g1 g2 : Nat} {p q : Int} (h : StrayAt w0 g1 g2 p q a) (hb : Below a.heap.size a b) : StrayAt w0 g1 g2 p q b := by
  obtain ⟨h1, h2, h3, h4, h5⟩ := h
  exact ⟨(hb.block _ (lt_of_block h1)).trans h1, (hb.block _ (lt_of_block h2)).trans h2, h3, h4, h5.trans (hb.mono h5.size)⟩
theorem StrayAt.drew {w0 a : World} {g1 g2 : Nat} {p q : Int} (h : StrayAt w0 g1 g2 p q a) : StrayAt w0 g1 g2 p q a.drew := h.step ⟨rfl, rfl, rfl, Nat.le_refl _, fun _ _ => rfl⟩
theorem StrayAt.set {w0 a : World} {g1 g2 : Nat} {p q p2 q2 : Int} (h : StrayAt w0 g1 g2 p q a) : StrayAt w0 g1 g2 p2 q2 ((a.setCell ⟨g1, 0, none⟩ (.int .i64 p2)).setCell ⟨g2, 0, none⟩ (.int .i64 q2)) := by
  obtain ⟨h1, h2, h3, h4, h5⟩ := h
  refine ⟨?_, one_setCell (v := .int .i64 q) ?_, h3, h4, (h5.setCell (p := ⟨g1, 0, none⟩) h4 _).setCell (p := ⟨g2, 0, none⟩) (by show w0.heap.size ≤ g2; omega) _⟩
  · rw [Below.heap_setCell _ _ _ _ (by show g1 ≠ g2; omega)]
    exact one_setCell h1
  · rw [Below.heap_setCell _ _ _ _ (by show g2 ≠ g1; omega)]
    exact h2
def stray (e : R.En) (p q : Int) : Bool := !(R.right e && (decide (e.pos = p + 1) && decide (q ≤ e.epoch)))

set_option maxHeartbeats 2000000 in
set_option maxRecDepth 100000 in
theorem stray_ask (e : R.En) (v : Value) (w0 w : World) (g1 g2 : Nat) (p q : Int) (r : Bool) (hv : ReadsE w v e.b.events) (hs : E.Small e.b) (hp : i64B p) (h : StrayAt w0 g1 g2 p q w) (H : Hid (stray e p q = r)) :
    Calls Tryz.prog 136 #[enV e v, .pointer (some ⟨g1, 0, none⟩), .pointer (some ⟨g2, 0, none⟩)] w fun x w' => x = .returned (.bool r) ∧ StrayAt w0 g1 g2 e.pos e.epoch w' := by
  obtain ⟨rt, HRT⟩ : ∃ x, Hid (R.right e = x) := ⟨_, Lib.hid rfl⟩
  have HR : Hid (r = !(rt && (decide (e.pos = p + 1) && decide (q ≤ e.epoch)))) := Lib.hid (by rw [← H.out, ← HRT.out]; rfl)
  have HRB : Hid (rt = true → 1 ≤ e.pos ∧ e.pos ≤ 274877906944) := Lib.hid fun h => by
    have := R.right_iff.1 (HRT.out.trans h)
    exact ⟨this.1, this.2.1⟩
  have HV := Lib.hid hv
  have HSM := Lib.hid hs
  have HST := Lib.hid h
  obtain ⟨a, cap, rfl, _⟩ := hv
  clear hs h H
  obtain ⟨pos, ep, st, ex, se, sq, evs⟩ := e
  dsimp only at *
  go_enter Tryz.func136, Tryz.ntmps136
  go_wp2_with fail
  refine (Right6_at ⟨pos, ep, st, ex, se, sq, evs⟩ _ rt _ (readsE_below HV.out ((Below.refl _ w).alloc (Nat.le_refl _) _)) HSM.out HRT).mono ?_
  rintro x w1 ⟨rfl, hb1⟩
  have b0 := box_at hb1 0
  have b1 := box_at hb1 1
  simp only [List.getElem?_toArray, List.getElem?_cons_zero, List.getElem?_cons_succ] at b0 b1
  have HS1 := Lib.hid (HST.out.step (below_box hb1))
  have hgn : ∀ j, StrayAt w0 g1 g2 j q w → True := fun _ _ => trivial
  clear hb1 hgn
  have d1 := cell_of_one HS1.out.1
  have d2 := cell_of_one HS1.out.2.1
  have f1 := free_of_one HS1.out.1
  have f2 := free_of_one HS1.out.2.1
  have hne1 : w.heap.size ≠ g1 := by have := lt_of_block HST.out.1; omega
  have hne2 : w.heap.size ≠ g2 := by have := lt_of_block HST.out.2.1; omega
  have hg12 := HS1.out.2.2.1
  have hgne : g1 ≠ g2 := by omega
  have hpb := hp
  unfold i64B at hpb
  have HFIN : Hid (StrayAt w0 g1 g2 pos ep ((w1.setCell ⟨g1, 0, none⟩ (.int .i64 pos)).setCell ⟨g2, 0, none⟩ (.int .i64 ep))) := Lib.hid HS1.out.set
  generalize w.heap.size = gb at *
  clear HST HV HSM hp
  have b0a : ∀ u, (w1.setCell ⟨g1, 0, none⟩ u).cell? ⟨gb, 0, none⟩ = some (.int .i64 pos) := fun u => cell_same b0 (Below.heap_setCell _ _ _ _ hne1)
  have b1a : ∀ u, (w1.setCell ⟨g1, 0, none⟩ u).cell? ⟨gb, 1, none⟩ = some (.int .i64 ep) := fun u => cell_same b1 (Below.heap_setCell _ _ _ _ hne1)
  have d2a : ∀ u, (w1.setCell ⟨g1, 0, none⟩ u).cell? ⟨g2, 0, none⟩ = some (.int .i64 q) := fun u => cell_same d2 (Below.heap_setCell _ _ _ _ (Ne.symm hgne))
  have f2a : ∀ u, (w1.setCell ⟨g1, 0, none⟩ u).frozen? ⟨g2, 0, none⟩ = false := fun u => free_of_one (v := .int .i64 q) (t := 3) (by rw [Below.heap_setCell _ _ _ _ (Ne.symm hgne)]; exact HS1.out.2.1)
  cases rt
  · have HE := Lib.hid (show r = true by rw [HR.out]; rfl)
    go_wp2
    go_region
    all_goals
      go_wp2
      go_ret
      rw [HE.out]
      exact ⟨rfl, HFIN.out.drew⟩
  · have hpos := HRB.out rfl
    obtain ⟨hpos1, hpos2⟩ := hpos
    obtain ⟨hpb1, hpb2⟩ := hpb
    by_cases hpe : pos = p + 1
    · have hw : wrap64 (p + 1) = p + 1 := by unfold wrap64; omega
      have hpi : (pos != wrap64 (p + 1)) = false := by rw [hw]; simp [hpe]
      have hpj : (pos == wrap64 (p + 1)) = true := by rw [hw]; simp [hpe]
      have hpk : (pos == p + 1) = true := by simp [hpe]
      by_cases hqe : q ≤ ep
      · have HE := Lib.hid (show r = false by rw [HR.out, decide_eq_true hpe, decide_eq_true hqe]; rfl)
        have hqi : decide (ep < q) = false := decide_eq_false (by omega)
        have hqj : ¬ ep < q := by omega
        clear hw hpe
        go_wp2
        go_region
        all_goals
          go_wp2
          go_ret
          rw [HE.out]
          exact ⟨rfl, HFIN.out.drew⟩
      · have HE := Lib.hid (show r = true by rw [HR.out, decide_eq_false hqe]; simp)
        have hqj : ep < q := by omega
        clear hw hpe
        go_wp2
        go_region
        all_goals
          go_wp2
          go_ret
          rw [HE.out]
          exact ⟨rfl, HFIN.out.drew⟩
    · have hpi : (pos != wrap64 (p + 1)) = true := by
        have : pos ≠ wrap64 (p + 1) := by unfold wrap64; omega
        simpa using this
      have hpj : (pos == wrap64 (p + 1)) = false := by simpa using hpi
      have HE := Lib.hid (show r = true by rw [HR.out, decide_eq_false hpe]; simp)
      clear hpe
      go_wp2
      go_region
      all_goals
        go_wp2
        go_ret
        rw [HE.out]
        exact ⟨rfl, HFIN.out.drew⟩

set_option maxHeartbeats 1000000 in
set_option maxRecDepth 100000 in
theorem strayFrom_l (p q : Int) (w : World) :
    Calls Tryz.prog 106 #[.int .i64 p, .int .i64 q] w fun r w' => r = .returned (cloS w.heap.size (w.heap.size + 1)) ∧ StrayAt w w.heap.size (w.heap.size + 1) p q w' := by
  have hmf : ∀ (fn : Fn) (first cap : Array Value) (w : World), (Instr.makeFunc fn first cap).run Tryz.prog w = .ok (.func fn first cap) w := fun _ _ _ _ => rfl
  go_enter Tryz.func106, Tryz.ntmps106
  go_wp2
  go_ret
  refine ⟨rfl, ?_, ?_, Nat.lt_succ_self _, Nat.le_refl _, ((Below.refl _ w).alloc (Nat.le_refl _) _).alloc (by simp) _⟩
  · rw [Below.heap_alloc _ _ _ (by simp)]
    exact heap_alloc_new w _
  · have := heap_alloc_new (w.alloc (.cells #[.int .i64 p] 3)) (.cells #[.int .i64 q] 3)
    rwa [World.size_alloc] at this

/-- The place and the epoch that entry k is held against. -/
def ahP (l : List R.En) (p : Int) : Nat → Int
  | 0 => p
  | k + 1 => (l[k]?.map (·.pos)).getD 0
def ahQ (l : List R.En) (q : Int) : Nat → Int
  | 0 => q
  | k + 1 => (l[k]?.map (·.epoch)).getD 0
def strayK (l : List R.En) (p q : Int) (k : Nat) : Bool := match l[k]? with
  | some e => stray e (ahP l p k) (ahQ l q k)
  | none => false
theorem stray_shift (e : R.En) (l : List R.En) (p q : Int) (k : Nat) : strayK (e :: l) p q (k + 1) = strayK l e.pos e.epoch k := by
  unfold strayK
  rw [List.getElem?_cons_succ]
  cases k with
  | zero => rfl
  | succ k => simp [ahP, ahQ]
theorem follows_of_stray : ∀ (l : List R.En) (p q : Int), (∀ i, i < l.length → strayK l p q i = false) → R.follows l p q = true
  | [], _, _, _ => rfl
  | e :: l, p, q, h => by
    have h0 := h 0 (by simp)
    have h1 := follows_of_stray l e.pos e.epoch fun i hi => by rw [← stray_shift e l p q i]; exact h (i + 1) (by simpa using hi)
    have h5 : stray e p q = false := h0
    unfold stray at h5
    simp only [Bool.not_eq_false', Bool.and_eq_true, decide_eq_true_eq] at h5
    exact R.follows_cons.2 ⟨h5.1, h5.2.1, h5.2.2, h1⟩
theorem stray_of_follows : ∀ (l : List R.En) (p q : Int) (k : Nat), strayK l p q k = true → R.follows l p q = false
  | [], _, _, k, h => by simp [strayK] at h
  | e :: l, p, q, 0, h => by
    cases hf : R.follows (e :: l) p q
    · rfl
    · obtain ⟨h1, h2, h3, _⟩ := R.follows_cons.1 hf
      have h5 : stray e p q = true := h
      unfold stray at h5
      rw [h1, decide_eq_true h2, decide_eq_true h3] at h5
      cases h5
  | e :: l, p, q, k + 1, h => by
    cases hf : R.follows (e :: l) p q
    · rfl
    · obtain ⟨_, _, _, h4⟩ := R.follows_cons.1 hf
      rw [stray_shift] at h
      rw [stray_of_follows l e.pos e.epoch k h] at h4
      cases h4

set_option maxHeartbeats 1000000 in
set_option maxRecDepth 100000 in
theorem Follows_l (es : List EV) (v : Value) (p q : Int) (w : World) (hv : ReadsR w v es) (hl : es.length ≤ 1000) (hs : ∀ x ∈ es, E.Small x.1.b) (hp : i64B p) :
    Calls Tryz.prog 76 #[v, .int .i64 p, .int .i64 q] w fun r w' => r = .returned (.bool (R.follows (ensOf es) p q)) ∧ Below w.heap.size w w' := by
  obtain ⟨r, HR⟩ : ∃ r, Hid (R.follows (ensOf es) p q = r) := ⟨_, Lib.hid rfl⟩
  rw [HR.out]
  have HV := Lib.hid hv
  have HSM := Lib.hid hs
  have HP := Lib.hid hp
  clear hv hs hp
  go_enter Tryz.func76, Tryz.ntmps76
  go_wp2_with fail
  refine (strayFrom_l p q w).mono ?_
  rintro x w1 ⟨rfl, hst⟩
  have HST := Lib.hid hst
  have hb1 := hst.2.2.2.2
  have HB1 := Lib.hid hb1
  clear hst
  have hstep : ∀ k wr (h : k < es.length), StrayAt w w.heap.size (w.heap.size + 1) (ahP (ensOf es) p k) (ahQ (ensOf es) q k) wr → (∀ i, i < k → strayK (ensOf es) p q i = false) →
      Calls Tryz.prog 136 (#[enV es[k].1 es[k].2] ++ #[.pointer (some ⟨w.heap.size, 0, none⟩), .pointer (some ⟨w.heap.size + 1, 0, none⟩)]) wr fun x w' => x = .returned (.bool (strayK (ensOf es) p q k)) ∧ StrayAt w w.heap.size (w.heap.size + 1) (ahP (ensOf es) p (k + 1)) (ahQ (ensOf es) q (k + 1)) w' := by
    intro k wr h hst hbad
    obtain ⟨a, cap, _, _, _, hx⟩ := readsR_below HV.out hst.2.2.2.2
    have hre := (hx k h).1
    have hg : (ensOf es)[k]? = some es[k].1 := by simp [h]
    have hpb : i64B (ahP (ensOf es) p k) := by
      cases k with
      | zero => exact HP.out
      | succ k =>
        have hg2 : (ensOf es)[k]? = some es[k].1 := by simp [show k < es.length by omega]
        have hb2 := hbad k (Nat.lt_succ_self _)
        unfold strayK at hb2
        rw [hg2] at hb2
        have h5 : stray es[k].1 (ahP (ensOf es) p k) (ahQ (ensOf es) q k) = false := hb2
        unfold stray at h5
        simp only [Bool.not_eq_false', Bool.and_eq_true] at h5
        have h6 := R.right_iff.1 h5.1
        have hl : R.large = 274877906944 := rfl
        have e1 : ahP (ensOf es) p (k + 1) = es[k].1.pos := by simp only [ahP, hg2]; rfl
        rw [e1]
        unfold i64B
        omega
    have e1 : ahP (ensOf es) p (k + 1) = es[k].1.pos := by simp only [ahP, hg]; rfl
    have e2 : ahQ (ensOf es) q (k + 1) = es[k].1.epoch := by simp only [ahQ, hg]; rfl
    rw [e1, e2]
    exact stray_ask es[k].1 es[k].2 w wr _ _ _ _ _ hre (HSM.out _ (List.getElem_mem h)) hpb hst (Lib.hid (by unfold strayK; rw [hg]))
  have hrun := found_run 136 #[.pointer (some ⟨w.heap.size, 0, none⟩), .pointer (some ⟨w.heap.size + 1, 0, none⟩)] es v w1 (fun k wr => StrayAt w w.heap.size (w.heap.size + 1) (ahP (ensOf es) p k) (ahQ (ensOf es) q k) wr)
    (fun k => strayK (ensOf es) p q k) (.inr rfl) hl (readsR_below HV.out hb1) (fun _ _ h => readsR_below HV.out h.2.2.2.2) (fun _ wr o h => h.step ((Below.refl _ wr).alloc (Nat.le_refl _) o)) hstep HST.out
  have HRUN := Lib.hid hrun
  clear hrun hstep HST hb1 HB1
  go_wp2_with fail
  refine HRUN.out.mono ?_
  rintro x w2 ⟨hres, kk, hst2⟩
  have HB2 := Lib.hid hst2.2.2.2.2
  clear hst2 HRUN
  rcases hres with ⟨rfl, k, hk, hbk, -⟩ | ⟨rfl, hall⟩
  · have HE := Lib.hid (show r = false by rw [← HR.out]; exact stray_of_follows _ _ _ k hbk)
    clear hbk
    go_wp2
    go_ret
    rw [HE.out]
    exact ⟨rfl, HB2.out⟩
  · have HE := Lib.hid (show r = true by rw [← HR.out]; exact follows_of_stray _ _ _ (fun i hi => hall i (by rw [← ensOf_len]; exact hi)))
    clear hall
    go_wp2
    go_ret
    rw [HE.out]
    exact ⟨rfl, HB2.out⟩
end Go.Proofs.YtmfhipjceeijmaaGreatDoor

/-
  Parts of lists of entries that came in, and appends of them.
-/
namespace Go.Proofs.YtmfhipjceeijmaaGreatDoor
open Go.RowKit

theorem readsR_take {w : World} {a : Option Addr} {cap : Nat} {es : List EV} (h : ReadsR w (.slice a es.length cap) es) {k : Nat} (hk : k ≤ es.length) : ReadsR w (.slice a k cap) (es.take k) := by
  obtain ⟨a2, c2, hv, hc, hn, hx⟩ := h
  cases hv
  have hl : (es.take k).length = k := by rw [List.length_take]; omega
  refine ⟨a, cap, by rw [hl], by rw [hl]; omega, hn, fun i hi => ?_⟩
  rw [hl] at hi
  have e1 : (es.take k)[i] = es[i] := by simp
  rw [e1]
  exact hx i (by omega)
theorem readsR_drop {w : World} {b o : Nat} {cap : Nat} {es : List EV} (h : ReadsR w (.slice (some ⟨b, o, none⟩) es.length cap) es) {k n : Nat} (hn : es.length - k = n) (hk : k ≤ es.length) (a' : Option Addr) (ha : 0 < n → a' = some ⟨b, o + k * 7, none⟩) (hz : a' = none → cap - k = 0) : ReadsR w (.slice a' n (cap - k)) (es.drop k) := by
  obtain ⟨a2, c2, hv, hc, _, hx⟩ := h
  cases hv
  have hl : (es.drop k).length = n := by rw [List.length_drop]; omega
  refine ⟨a', cap - k, by rw [hl], by rw [hl]; omega, hz, fun i hi => ?_⟩
  rw [hl] at hi
  have e1 : (es.drop k)[i] = es[k + i] := by simp
  rw [e1]
  obtain ⟨hre, hp, b2, o2, e2, h7⟩ := hx (k + i) (by omega)
  cases e2
  refine ⟨hre, hp, b, o + k * 7, ha (by omega), ?_⟩
  rw [show o + k * 7 + i * 7 = o + (k + i) * 7 by omega]
  exact h7
/-- What the cells of a list that came in are, one behind the other. -/
theorem reads_cells {w : World} {b o cap : Nat} {es : List EV} {n : Nat} (hn : es.length = n) (h : ReadsR w (.slice (some ⟨b, o, none⟩) n cap) es) : ∀ j u, (enCells es)[j]? = some u → w.cell? ((⟨b, o, none⟩ : Addr).add j) = some u := by
  subst hn
  intro j u hj
  have hjl : j < es.length * 7 := by rw [← enCells_len]; exact (List.getElem?_eq_some_iff.1 hj).1
  obtain ⟨a2, c2, hv, _, _, hx⟩ := h
  cases hv
  have hi : j / 7 < es.length := by omega
  obtain ⟨_, _, b2, o2, e2, c0, c1, c2', c3, c4, c5, c6⟩ := hx (j / 7) hi
  cases e2
  obtain ⟨g0, g1, g2, g3, g4, g5, g6⟩ := enCells_get es (j / 7) hi
  rw [Go.WideShapes.add_plain]
  have hm : j % 7 < 7 := Nat.mod_lt _ (by omega)
  have hd : j = j / 7 * 7 + j % 7 := by omega
  generalize j / 7 = d at *
  generalize j % 7 = m at *
  subst hd
  match m, hm with
  | 0, _ => rw [Nat.add_zero, g0] at hj; rw [Nat.add_zero]; rw [← hj]; exact c0
  | 1, _ => rw [g1] at hj; rw [← hj, ← Nat.add_assoc]; exact c1
  | 2, _ => rw [g2] at hj; rw [← hj, ← Nat.add_assoc]; exact c2'
  | 3, _ => rw [g3] at hj; rw [← hj, ← Nat.add_assoc]; exact c3
  | 4, _ => rw [g4] at hj; rw [← hj, ← Nat.add_assoc]; exact c4
  | 5, _ => rw [g5] at hj; rw [← hj, ← Nat.add_assoc]; exact c5
  | 6, _ => rw [g6] at hj; rw [← hj, ← Nat.add_assoc]; exact c6
theorem enCells_one {es : List EV} (h : ∀ p ∈ es, ∃ a n c, p.2 = .slice a n c) : ∀ u ∈ enCells es, u.oneCell' = true := by
  intro u hu
  unfold enCells at hu
  rw [List.mem_flatMap] at hu
  obtain ⟨p, hp, hu⟩ := hu
  obtain ⟨a, n, c, he⟩ := h p hp
  simp only [evCells7, he, List.mem_cons, List.not_mem_nil, or_false] at hu
  rcases hu with rfl | rfl | rfl | rfl | rfl | rfl | rfl <;> rfl
theorem reads_forms {w : World} {v : Value} {es : List EV} (h : ReadsR w v es) : ∀ p ∈ es, ∃ a n c, p.2 = .slice a n c := by
  intro p hp
  obtain ⟨i, hi, rfl⟩ := List.mem_iff_getElem.1 hp
  obtain ⟨_, _, _, _, _, hx⟩ := h
  exact readsE_form (hx i hi).1
theorem Follows_at (es : List EV) (v : Value) (p q : Int) (r : Bool) (w : World) (hv : ReadsR w v es) (hl : es.length ≤ 1000) (hs : ∀ x ∈ es, E.Small x.1.b) (hp : i64B p) (H : Hid (R.follows (ensOf es) p q = r)) :
    Calls Tryz.prog 76 #[v, .int .i64 p, .int .i64 q] w fun x w' => x = .returned (.bool r) ∧ Below w.heap.size w w' := by
  rw [← H.out]; exact Follows_l es v p q w hv hl hs hp
end Go.Proofs.YtmfhipjceeijmaaGreatDoor

/-
  Walks of the document's answer: Right, Follows, Marks.
-/
namespace Go.Proofs.YtmfhipjceeijmaaGreatDoor
open Go.RowKit
attribute [local go_sem] ext_Bd ext_Bl ext_Bt toList_B add_B size_B get_Bt

set_option maxHeartbeats 1000000 in
set_option maxRecDepth 100000 in
theorem refRight6_at (e : R.En) (v : Value) (r : Bool) (w : World) (hv : ReadsE w v e.b.events) (hs : E.Tiny e.b) (H : Hid (R.right e = r)) :
    Calls Tryz.prog 79 #[enV e v] w fun x w' => x = .returned (.bool r) ∧ Below w.heap.size w w' := by
  obtain ⟨f, HF⟩ : ∃ n, Hid (E.fits e.b = n) := ⟨_, Lib.hid rfl⟩
  have HR : Hid (r = (decide (1 ≤ e.pos ∧ e.pos ≤ 274877906944) && (decide (1 ≤ e.epoch ∧ e.epoch ≤ 274877906944) && decide (f = 0)))) := Lib.hid (by rw [← H.out, ← HF.out]; exact right_parts e)
  clear H
  have HS := Lib.hid hs
  have HV := Lib.hid hv
  have hB : ∀ o, Below w.heap.size w (w.alloc o) := fun o => (Below.refl _ w).alloc (Nat.le_refl _) o
  obtain ⟨a, cap, rfl, _⟩ := hv
  clear hs
  obtain ⟨pos, ep, b⟩ := e
  dsimp only at *
  by_cases h1 : ¬ (1 ≤ pos)
  · have HE := Lib.hid (show r = false by rw [HR.out, decide_eq_false (fun h => h1 h.1)]; rfl)
    have h1d : decide (1 ≤ pos) = false := decide_eq_false h1
    clear h1
    go_enter Tryz.func79, Tryz.ntmps79
    go_wp2
    go_ret
    rw [HE.out]
    exact ⟨rfl, hB _⟩
  replace h1 := Decidable.of_not_not h1
  by_cases h2 : ¬ (pos ≤ 274877906944)
  · have HE := Lib.hid (show r = false by rw [HR.out, decide_eq_false (fun h => h2 h.2)]; rfl)
    have h2d : decide (pos ≤ 274877906944) = false := decide_eq_false h2
    clear h2
    go_enter Tryz.func79, Tryz.ntmps79
    go_wp2
    go_ret
    rw [HE.out]
    exact ⟨rfl, hB _⟩
  replace h2 := Decidable.of_not_not h2
  by_cases h3 : ¬ (1 ≤ ep)
  · have HE := Lib.hid (show r = false by rw [HR.out, decide_eq_false (p := 1 ≤ ep ∧ ep ≤ 274877906944) (fun h => h3 h.1)]; simp)
    have h3d : decide (1 ≤ ep) = false := decide_eq_false h3
    clear h3
    go_enter Tryz.func79, Tryz.ntmps79
    go_wp2
    go_ret
    rw [HE.out]
    exact ⟨rfl, hB _⟩
  replace h3 := Decidable.of_not_not h3
  by_cases h4 : ¬ (ep ≤ 274877906944)
  · have HE := Lib.hid (show r = false by rw [HR.out, decide_eq_false (p := 1 ≤ ep ∧ ep ≤ 274877906944) (fun h => h4 h.2)]; simp)
    have h4d : decide (ep ≤ 274877906944) = false := decide_eq_false h4
    clear h4
    go_enter Tryz.func79, Tryz.ntmps79
    go_wp2
    go_ret
    rw [HE.out]
    exact ⟨rfl, hB _⟩
  replace h4 := Decidable.of_not_not h4
  have HR2 : Hid (r = decide (f = 0)) := Lib.hid (by rw [HR.out, decide_eq_true ⟨h1, h2⟩, decide_eq_true ⟨h3, h4⟩]; rfl)
  go_enter Tryz.func79, Tryz.ntmps79
  go_wp2_with fail
  refine (refFits_at b _ f _ (readsE_below HV.out (hB _)) HS.out.1 HS.out.2 HF).mono ?_
  rintro x w2 ⟨rfl, hb2⟩
  have hb := below_box hb2
  clear hb2
  by_cases h0 : f = 0
  · subst h0
    go_wp2
    go_ret
    rw [HR2.out]
    exact ⟨rfl, hb⟩
  · have hfi : ((f : Int) == 0) = false := beq_eq_false_iff_ne.2 (by omega)
    have HE := Lib.hid (show r = false by rw [HR2.out, decide_eq_false h0])
    clear h0
    go_wp2
    go_ret
    rw [HE.out]
    exact ⟨rfl, hb⟩

theorem follows_drop {l : List R.En} {k : Nat} (h : k < l.length) (p q : Int) : R.follows (l.drop k) p q = (R.right l[k] && (decide (l[k].pos = p + 1) && (decide (q ≤ l[k].epoch) && R.follows (l.drop (k + 1)) l[k].pos l[k].epoch))) := by
  rw [List.drop_eq_getElem_cons h, R.follows]

set_option maxHeartbeats 2000000 in
set_option maxRecDepth 100000 in
theorem refFollows_l (es : List EV) (v : Value) (p0 q0 : Int) (w : World) (hv : ReadsR w v es) (hl : es.length ≤ 1000) (hs : ∀ x ∈ es, E.Tiny x.1.b) (hp : i64B p0) :
    Calls Tryz.prog 46 #[v, .int .i64 p0, .int .i64 q0] w fun r w' => r = .returned (.bool (R.follows (ensOf es) p0 q0)) ∧ Below w.heap.size w w' := by
  obtain ⟨a, cap, rfl, hcp, _, hx⟩ := hv
  have HX := Lib.hid hx; clear hx
  have HSM := Lib.hid hs; clear hs
  obtain ⟨r, HR⟩ : ∃ r, Hid (R.follows (ensOf es) p0 q0 = r) := ⟨_, Lib.hid rfl⟩
  rw [HR.out]
  obtain ⟨l, HL⟩ : ∃ l, Hid (ensOf es = l) := ⟨_, Lib.hid rfl⟩
  have HLL := Lib.hid (show l.length = es.length by rw [← HL.out, ensOf_len])
  have HLG : Hid (∀ i (h : i < es.length), l[i]'(by rw [HLL.out]; exact h) = es[i].1) := Lib.hid fun i h => by
    have := HL.out; subst this; simp
  rw [HL.out] at HR
  clear HL
  have HP := Lib.hid hp; clear hp
  go_enter Tryz.func46, Tryz.ntmps46
  go_wp2
  go_loopw [1, 2, 7] (fun vp vq i wr => ∃ (k : Nat) (p q : Int), i = .int .i64 k ∧ vp = .int .i64 p ∧ vq = .int .i64 q ∧ k ≤ es.length ∧ i64B p ∧ R.follows (l.drop k) p q = r ∧ Below w.heap.size w wr) (fun _ _ i _ => es.length - (intOf i).toNat)
  case atStart => exact ⟨0, p0, q0, rfl, rfl, rfl, Nat.zero_le _, HP.out, HR.out, Below.refl _ _⟩
  case round =>
    obtain ⟨k, p, q, rfl, rfl, rfl, hk, hpb, hf, hbe⟩ := hrel
    have HF := Lib.hid hf
    have HBE := Lib.hid hbe
    clear hf hbe HR
    by_cases hlt : k < es.length
    · obtain ⟨hre, hpos, b1, o1, rfl, hat7⟩ := HX.out k hlt
      have hi1 : (k : Int) < (es.length : Int) := by omega
      have hst := follows_drop (l := l) (k := k) (by rw [HLL.out]; exact hlt) p q
      rw [HLG.out k hlt, HF.out] at hst
      have HST := Lib.hid hst
      have hre2 := readsE_below hre HBE.out
      have HRE := Lib.hid hre2
      have HSK := Lib.hid (HSM.out _ (List.getElem_mem hlt))
      have h7 := hat7.keep (below_keeps HBE.out)
      clear hst hat7 hre
      generalize es[k] = pe at *
      obtain ⟨e, u⟩ := pe
      dsimp only at *
      obtain ⟨ea, ec, rfl, _⟩ := hre2
      obtain ⟨c0, c1, c2, c3, c4, c5, c6⟩ := h7
      obtain ⟨rt, HRT⟩ : ∃ x, Hid (R.right e = x) := ⟨_, Lib.hid rfl⟩
      rw [HRT.out] at HST
      have HRB : Hid (rt = true → 1 ≤ e.pos ∧ e.pos ≤ 274877906944) := Lib.hid fun h => by
        have := R.right_iff.1 (HRT.out.trans h)
        exact ⟨this.1, this.2.1⟩
      go_wp2_with fail
      refine (refRight6_at e _ rt wr HRE.out HSK.out HRT).mono ?_
      rintro x w2 ⟨rfl, hb2⟩
      have d0 := below_keeps hb2 _ _ c0
      have d1 := below_keeps hb2 _ _ c1
      have HB2 := Lib.hid (HBE.out.trans (hb2.mono HBE.out.size))
      clear hb2 c0 c1 c2 c3 c4 c5 c6
      unfold i64B at hpb hpos
      obtain ⟨hpb1, hpb2⟩ := hpb
      obtain ⟨hps1, hps2⟩ := hpos
      obtain ⟨pos, ep, bb⟩ := e
      dsimp only at *
      cases rt
      · have HE := Lib.hid (show r = false by rw [HST.out]; rfl)
        go_wp2
        go_ret
        rw [HE.out]
        exact ⟨rfl, HB2.out⟩
      · obtain ⟨hpos1, hpos2⟩ := HRB.out rfl
        by_cases hpe : pos = p + 1
        · have hw : wrap64 (p + 1) = p + 1 := by unfold wrap64; omega
          have hpi : (pos != wrap64 (p + 1)) = false := by rw [hw]; simp [hpe]
          have hpj : (pos == wrap64 (p + 1)) = true := by rw [hw]; simp [hpe]
          have hpk : (pos == p + 1) = true := by simp [hpe]
          by_cases hqe : q ≤ ep
          · have HE := Lib.hid (show R.follows (l.drop (k + 1)) pos ep = r by rw [HST.out, decide_eq_true hpe, decide_eq_true hqe]; rfl)
            have hqj : ¬ ep < q := by omega
            clear hw hpe
            go_wp2
            go_roundw
            case rel => exact ⟨k + 1, pos, ep, by go_num, rfl, rfl, by omega, ⟨by omega, by omega⟩, HE.out, HB2.out⟩
            case measure => simp [intOf]; omega
          · have HE := Lib.hid (show r = false by rw [HST.out, decide_eq_false hqe]; simp)
            have hqj : ep < q := by omega
            clear hw hpe
            go_wp2
            go_ret
            rw [HE.out]
            exact ⟨rfl, HB2.out⟩
        · have hpi : (pos != wrap64 (p + 1)) = true := by
            have : pos ≠ wrap64 (p + 1) := by unfold wrap64; omega
            simpa using this
          have hpj : (pos == wrap64 (p + 1)) = false := by simpa using hpi
          have HE := Lib.hid (show r = false by rw [HST.out, decide_eq_false hpe]; simp)
          clear hpe
          go_wp2
          go_ret
          rw [HE.out]
          exact ⟨rfl, HB2.out⟩
    · have HE := Lib.hid (show r = true by rw [← HF.out, List.drop_of_length_le (by rw [HLL.out]; omega)]; rfl)
      go_wp2
      go_ret
      rw [HE.out]
      exact ⟨rfl, HBE.out⟩
end Go.Proofs.YtmfhipjceeijmaaGreatDoor

/-
  Walk of TakeBatch of package event, once more: the events that it takes lie in a row of the call's own.
-/
namespace Go.Proofs.YtmfhipjceeijmaaGreatDoor
open Go.RowKit
attribute [local go_sem] ext_Bd ext_Bl ext_Bt toList_B add_B size_B get_Bt

set_option maxHeartbeats 4000000 in
set_option maxRecDepth 100000 in
theorem ETakeBat_own (s : List UInt8) (b : E.Bat) (r : List UInt8) (w : World) (hs : s.length ≤ 1000000) (H : Hid (batRes (E.takeBat s) = (b, r, 0))) :
    Calls Tryz.prog 135 #[.string (B s)] w fun x w' => ∃ v, x = .returned (.tuple #[batV b v, .string (B r), .int .i64 0]) ∧ w'.ownsRow w.heap.size 92 2 v b.events.length (evCells b.events) ∧ Below w.heap.size w w' := by
  have hmf : ∀ (fn : Fn) (first cap : Array Value) (w : World), (Instr.makeFunc fn first cap).run Tryz.prog w = .ok (.func fn first cap) w := fun _ _ _ _ => rfl
  rw [tb_eq] at H
  obtain ⟨hA, hR, hF, hB⟩ := three_new w (.cells #[.string (B []), .int .i64 0, .int .i64 0, .int .i64 0, .slice none 0 0] 51) (.cells #[.string (B s), .string (B []), .string (B []), .string (B []), .int .i64 0, .int .i64 0, .int .i64 0, .slice none 0 0] 200)
    (.cells #[mV 169 (w.heap.size + 1), mV 170 (w.heap.size + 1), mV 171 (w.heap.size + 1), mV 172 (w.heap.size + 1), mV 173 (w.heap.size + 1)] 202)
  have HA := Lib.hid hA
  have HF := Lib.hid hF
  have HB := Lib.hid hB
  have HR := Lib.hid (show RdAt _ (w.heap.size + 1) s [] [] [] 0 0 0 (.slice none 0 0) from hR)
  clear hA hR hF hB
  go_enter Tryz.func135, Tryz.ntmps135
  go_wp2_with fail
  refine (rd_five (g := w.heap.size + 1) (gs := w.heap.size + 1 + 1) HR.out hs HF.out (by omega)).mono ?_
  rintro x w1 (⟨rfl, hg, st, ex, se, sq, evs, r2, v, kk, dd, htb, hsm, hrd, hown⟩ | ⟨c2, hc, rfl, hg, htb⟩)
  · have HA1 := Lib.hid (block_kept HA.out hg (by omega))
    have hb1 : Below w.heap.size w w1 := HB.out.grown hg HB.out.size (fun k hk => by cases hk; omega)
    have HB1 := Lib.hid hb1
    have hsz : w.heap.size + 1 + 1 + 1 = (((w.alloc (.cells #[.string (B []), .int .i64 0, .int .i64 0, .int .i64 0, .slice none 0 0] 51)).alloc (.cells #[.string (B s), .string (B []), .string (B []), .string (B []), .int .i64 0, .int .i64 0, .int .i64 0, .slice none 0 0] 200)).alloc
      (.cells #[mV 169 (w.heap.size + 1), mV 170 (w.heap.size + 1), mV 171 (w.heap.size + 1), mV 172 (w.heap.size + 1), mV 173 (w.heap.size + 1)] 202)).heap.size := by simp
    rw [← hsz] at hown
    have HOW := Lib.hid hown
    have HRD := Lib.hid hrd
    have HSM := Lib.hid hsm
    have HRE := Lib.hid (readsE_own hown)
    obtain ⟨pa, pc, hvv, -⟩ := readsE_own hown
    subst hvv
    obtain ⟨c0, -, -, c3, c4, c5, c6, c7⟩ := hrd.cells
    obtain ⟨f, HFI⟩ : ∃ f, Hid (E.fits ⟨st, ex, se, sq, evs⟩ = f) := ⟨_, Lib.hid rfl⟩
    have hev := H.out
    rw [htb, HFI.out] at hev
    clear hg hb1 HA HF HB HR hsz hrd hown hsm htb H
    by_cases hf : f = 0
    · subst hf
      rw [if_pos rfl] at hev
      cases hev
      go_wp2_with fail
      refine (Fits_at ⟨st, ex, se, sq, evs⟩ (.slice pa evs.length pc) 0 w1 HRE.out HSM.out HFI).mono ?_
      rintro x w2 ⟨rfl, hb2⟩
      have HA2 := Lib.hid (block_below HA1.out hb2)
      have HB2 := Lib.hid (HB1.out.trans (hb2.mono HB1.out.size))
      have hrd2 := HRD.out.below hb2
      have HOW2 := Lib.hid (own_below5 HOW.out hb2)
      clear c0 c3 c4 c5 c6 c7 hb2
      obtain ⟨c0, -, -, c3, c4, c5, c6, c7⟩ := hrd2.cells
      clear hrd2
      have a0 := block_cell HA2.out 0
      have a1 := block_cell HA2.out 1
      have a2 := block_cell HA2.out 2
      have a3 := block_cell HA2.out 3
      have a4 := block_cell HA2.out 4
      simp at a0 a1 a2 a3 a4
      have l0 := block_loose HA2.out 0
      have l1 := block_loose HA2.out 1
      have l2 := block_loose HA2.out 2
      have l3 := block_loose HA2.out 3
      have l4 := block_loose HA2.out 4
      go_wp2
      go_region
      all_goals
        go_wp2
        have HK : Hid ((((((w2.setCell ⟨w.heap.size, 0, none⟩ (.string (B st))).setCell ⟨w.heap.size, 1, none⟩ (.int .i64 ex)).setCell ⟨w.heap.size, 2, none⟩ (.int .i64 se)).setCell ⟨w.heap.size, 3, none⟩ (.int .i64 sq)).setCell ⟨w.heap.size, 4, none⟩ (.slice pa evs.length pc)).drew.heap[w.heap.size]? = some (.cells #[.string (B st), .int .i64 ex, .int .i64 se, .int .i64 sq, .slice pa evs.length pc] 51 (0, 0))) := Lib.hid (set_five HA2.out)
        have HB3 : Hid (Below w.heap.size w (((((w2.setCell ⟨w.heap.size, 0, none⟩ (.string (B st))).setCell ⟨w.heap.size, 1, none⟩ (.int .i64 ex)).setCell ⟨w.heap.size, 2, none⟩ (.int .i64 se)).setCell ⟨w.heap.size, 3, none⟩ (.int .i64 sq)).setCell ⟨w.heap.size, 4, none⟩ (.slice pa evs.length pc)).drew) := Lib.hid (below_five HB2.out (Nat.le_refl _) _ _ _ _ _).drew
        have HR3 : Hid (World.ownsRow (((((w2.setCell ⟨w.heap.size, 0, none⟩ (.string (B st))).setCell ⟨w.heap.size, 1, none⟩ (.int .i64 ex)).setCell ⟨w.heap.size, 2, none⟩ (.int .i64 se)).setCell ⟨w.heap.size, 3, none⟩ (.int .i64 sq)).setCell ⟨w.heap.size, 4, none⟩ (.slice pa evs.length pc)).drew w.heap.size 92 2 (.slice pa evs.length pc) evs.length (evCells evs)) := Lib.hid (own_base5 (HOW2.out.kept (grown_drew (grown_five w2 w.heap.size _ _ _ _ _)) (.inr (own_ne HOW2.out (by omega)).symm)) (by omega))
        generalize (((((w2.setCell ⟨w.heap.size, 0, none⟩ (.string (B st))).setCell ⟨w.heap.size, 1, none⟩ (.int .i64 ex)).setCell ⟨w.heap.size, 2, none⟩ (.int .i64 se)).setCell ⟨w.heap.size, 3, none⟩ (.int .i64 sq)).setCell ⟨w.heap.size, 4, none⟩ (.slice pa evs.length pc)).drew = w9 at *
        have k0 := block_cell HK.out 0
        have k1 := block_cell HK.out 1
        have k2 := block_cell HK.out 2
        have k3 := block_cell HK.out 3
        have k4 := block_cell HK.out 4
        simp at k0 k1 k2 k3 k4
        exact bodyPost_ret (v := .tuple #[batV ⟨st, ex, se, sq, evs⟩ (.slice pa evs.length pc), .string (B r), .int .i64 0]) (by simp [results, Tryz.results135, go_sem, k0, k1, k2, k3, k4]) rfl ⟨_, rfl, HR3.out, HB3.out⟩
    · rw [if_neg hf] at hev
      cases hev
  · have hev := H.out
    rw [htb] at hev
    cases hev
    exact absurd hc (Nat.lt_irrefl _)
end Go.Proofs.YtmfhipjceeijmaaGreatDoor

/-
  The arguments of chapter 9's laws: rows of acts.
-/
namespace Go.Proofs.YtmfhipjceeijmaaGreatDoor.G
open Go.RowKit Go.ChangeShapes Go.WideShapes Go.Deep
open D (keeps)

/-- An act, and the slices in which its entries and numbers lie. -/
structure Ac where
  op : Int
  n : Int
  m : Int
  l : List EV
  vl : Value
  text : List UInt8
  keep : List Int
  vk : Value
def Ac.fine (w : World) (a : Ac) : Prop := ReadsR w a.vl a.l ∧ D.ReadsI w a.vk a.keep ∧ D.i64B a.op ∧ D.i64B a.n ∧ D.i64B a.m ∧ a.text.length ≤ 9223372036854775807
def At6 (w : World) (b o : Nat) (a : Ac) : Prop :=
  w.cell? ⟨b, o, none⟩ = some (.int .i64 a.op) ∧ w.cell? ⟨b, o + 1, none⟩ = some (.int .i64 a.n) ∧ w.cell? ⟨b, o + 2, none⟩ = some (.int .i64 a.m) ∧ w.cell? ⟨b, o + 3, none⟩ = some a.vl ∧ w.cell? ⟨b, o + 4, none⟩ = some (.string (B a.text)) ∧ w.cell? ⟨b, o + 5, none⟩ = some a.vk
theorem At6.keep {w w' : World} {b o : Nat} {a : Ac} (h : At6 w b o a) (hk : ∀ (p : Addr) (u : Value), w.cell? p = some u → w'.cell? p = some u) : At6 w' b o a := by
  obtain ⟨h0, h1, h2, h3, h4, h5⟩ := h
  exact ⟨hk _ _ h0, hk _ _ h1, hk _ _ h2, hk _ _ h3, hk _ _ h4, hk _ _ h5⟩
def ReadsA (w : World) (v : Value) (acs : List Ac) : Prop :=
  ∃ a cap, v = .slice a acs.length cap ∧ ∀ i (h : i < acs.length), acs[i].fine w ∧ ∃ b off, a = some ⟨b, off, none⟩ ∧ At6 w b (off + i * 6) acs[i]
theorem fine_below {w w' : World} {a : Ac} (h : a.fine w) (hb : Below w.heap.size w w') : a.fine w' := ⟨readsR_below h.1 hb, D.readsI_below h.2.1 hb, h.2.2⟩
theorem readsA_below {w w' : World} {v : Value} {acs : List Ac} (h : ReadsA w v acs) (hb : Below w.heap.size w w') : ReadsA w' v acs := by
  obtain ⟨a, cap, h1, hx⟩ := h
  refine ⟨a, cap, h1, fun i hi => ?_⟩
  obtain ⟨h2, b, off, h4, c⟩ := hx i hi
  exact ⟨fine_below h2 hb, b, off, h4, c.keep (keeps hb)⟩

section
variable {H : Type} {enc : TypeId × Value → H} {P : Program} {w : World} {base : Nat} {spare : Nat → Bool} {held : Bool}
theorem open_entries {ts t tb tl te : TypeId} {fuel : Nat} {v : Value} {x : DataW H × List MemPlace} (hT : EnTy P t tb tl te) (hts : P.underlying ts = some (.slice t)) (h : DataW.trod enc P w base spare held fuel ts [v] = some x) : ∃ es, ReadsR w v es := by
  have hC : P.cellsOf t = 7 := by obtain ⟨_, _, _, _, _, _, _, _, _, _, _, _, k, _⟩ := hT; exact k.2.2.2
  rcases open_slice hts h with ⟨hcs, _⟩ | ⟨a, len, cap, m, n, D, Pl, hcs, hb, hle, hm, hmm, _, hi⟩
  · cases hcs
    exact ⟨[], none, 0, rfl, Nat.le_refl _, fun _ => rfl, fun i hi => by simp at hi⟩
  · cases hcs
    have hlm : len ≤ m := by rw [hmm]; split <;> omega
    have key : ∀ i, i < len → ∃ q : EV, ReadsE w q.2 q.1.b.events ∧ i64B q.1.pos ∧ w.cell? (a.add (i * 7)) = some (.int .i64 q.1.pos) ∧ w.cell? (a.add (i * 7 + 1)) = some (.int .i64 q.1.epoch) ∧ w.cell? (a.add (i * 7 + 2)) = some (.string (B q.1.b.stream)) ∧
        w.cell? (a.add (i * 7 + 3)) = some (.int .i64 q.1.b.expect) ∧ w.cell? (a.add (i * 7 + 4)) = some (.int .i64 q.1.b.session) ∧ w.cell? (a.add (i * 7 + 5)) = some (.int .i64 q.1.b.seq) ∧ w.cell? (a.add (i * 7 + 6)) = some q.2 := by
      intro i hil
      obtain ⟨cs, hc, hr⟩ := hi i (by omega)
      rw [hC] at hc
      obtain ⟨e, u, rfl, hre, hp⟩ := open_entry hT hr
      obtain ⟨_, _, hat⟩ := World.cells?_some hc
      have c0 := hat 0 (by omega)
      have c1 := hat 1 (by omega)
      have c2 := hat 2 (by omega)
      have c3 := hat 3 (by omega)
      have c4 := hat 4 (by omega)
      have c5 := hat 5 (by omega)
      have c6 := hat 6 (by omega)
      rw [Go.Deep.add_add] at c0 c1 c2 c3 c4 c5 c6
      exact ⟨(e, u), hre, hp, c0, c1, c2, c3, c4, c5, c6⟩
    obtain ⟨f, hf⟩ : ∃ f : Nat → EV, ∀ i, i < len → ReadsE w (f i).2 (f i).1.b.events ∧ i64B (f i).1.pos ∧ w.cell? (a.add (i * 7)) = some (.int .i64 (f i).1.pos) ∧ w.cell? (a.add (i * 7 + 1)) = some (.int .i64 (f i).1.epoch) ∧ w.cell? (a.add (i * 7 + 2)) = some (.string (B (f i).1.b.stream)) ∧
        w.cell? (a.add (i * 7 + 3)) = some (.int .i64 (f i).1.b.expect) ∧ w.cell? (a.add (i * 7 + 4)) = some (.int .i64 (f i).1.b.session) ∧ w.cell? (a.add (i * 7 + 5)) = some (.int .i64 (f i).1.b.seq) ∧ w.cell? (a.add (i * 7 + 6)) = some (f i).2 := by
      refine ⟨fun i => if h : i < len then Classical.choose (key i h) else (⟨0, 0, ⟨[], 0, 0, 0, []⟩⟩, .slice none 0 0), fun i hil => ?_⟩
      have hs := Classical.choose_spec (key i hil)
      simp only [dif_pos hil]
      exact hs
    obtain ⟨b, off, spot⟩ := a
    refine ⟨(List.range len).map f, some ⟨b, off, spot⟩, cap, by simp, by simpa using hle, fun h => (by cases h), fun i hi => ?_⟩
    have hil : i < len := by simpa using hi
    have hspot : spot = none := by simpa [Addr.add] using World.cell?_spot (hf 0 (by omega)).2.2.1
    subst hspot
    obtain ⟨hre, hp, c0, c1, c2, c3, c4, c5, c6⟩ := hf i hil
    rw [Go.WideShapes.add_plain] at c0 c1 c2 c3 c4 c5 c6
    have e1 : ((List.range len).map f)[i] = f i := by simp
    rw [e1]
    exact ⟨hre, hp, b, off, rfl, c0, c1, c2, c3, c4, c5, c6⟩
theorem open_act {t tk ti tl te tb tev te2 : TypeId} {f0 f1 f2 f3 f4 f5 : Field} {fuel : Nat} {cs : List Value} {x : DataW H × List MemPlace} (ht : P.underlying t = some (.struct #[f0, f1, f2, f3, f4, f5])) (hone : oneCellFields P #[f0, f1, f2, f3, f4, f5] = true) (hC : P.cellsOf t = 6)
    (h0 : P.underlying f0.type = some (.int .i64)) (h1 : P.underlying f1.type = some (.int .i64)) (h2 : P.underlying f2.type = some (.int .i64)) (h3 : f3.type = tl) (h4 : P.underlying f4.type = some .string) (h5 : f5.type = tk) (hk : P.underlying tk = some (.slice ti)) (hi : P.underlying ti = some (.int .i64)) (hCi : P.cellsOf ti = 1) (hl : P.underlying tl = some (.slice te)) (hT : EnTy P te tb tev te2)
    (h : DataW.trod enc P w base spare held fuel t cs = some x) :
    ∃ a : Ac, cs = [.int .i64 a.op, .int .i64 a.n, .int .i64 a.m, a.vl, .string (B a.text), a.vk] ∧ a.fine w := by
  obtain ⟨hln, n, hf⟩ := fields_one ht hone hC h
  obtain ⟨v0, y0, c0, r0⟩ := hf 0 f0 rfl
  obtain ⟨v1, y1, c1, r1⟩ := hf 1 f1 rfl
  obtain ⟨v2, y2, c2, r2⟩ := hf 2 f2 rfl
  obtain ⟨v3, y3, c3, r3⟩ := hf 3 f3 rfl
  obtain ⟨v4, y4, c4, r4⟩ := hf 4 f4 rfl
  obtain ⟨v5, y5, c5, r5⟩ := hf 5 f5 rfl
  obtain ⟨s0, e0, _, w0⟩ := DataW.trod_int h0 r0
  obtain ⟨s1, e1, _, w1⟩ := DataW.trod_int h1 r1
  obtain ⟨s2, e2, _, w2⟩ := DataW.trod_int h2 r2
  obtain ⟨s4, e4, _, b4⟩ := DataW.trod_string h4 r4
  rw [h3] at r3
  rw [h5] at r5
  obtain ⟨es, hes⟩ := open_entries hT hl r3
  obtain ⟨ks, hk2⟩ := D.open_ints hk hi hCi r5
  cases e0
  cases e1
  cases e2
  cases e4
  refine ⟨⟨s0, s1, s2, es, v3, L s4, ks, v5⟩, ?_, hes, hk2, i64_bd w0, i64_bd w1, i64_bd w2, by rw [L_len]; exact b4⟩
  rw [B_L]
  match cs, hln with
  | [a, b, c, d, e, f], _ =>
    cases c0
    cases c1
    cases c2
    cases c3
    cases c4
    cases c5
    rfl
theorem arg_acts {r : Reach} {b0 : Nat} {ts t tk ti tl te tb tev te2 : TypeId} {f0 f1 f2 f3 f4 f5 : Field} {v : Value} {d : DataW H} {p : List MemPlace} (hts : P.underlying ts = some (.slice t)) (ht : P.underlying t = some (.struct #[f0, f1, f2, f3, f4, f5])) (hone : oneCellFields P #[f0, f1, f2, f3, f4, f5] = true) (hC : P.cellsOf t = 6)
    (h0 : P.underlying f0.type = some (.int .i64)) (h1 : P.underlying f1.type = some (.int .i64)) (h2 : P.underlying f2.type = some (.int .i64)) (h3 : f3.type = tl) (h4 : P.underlying f4.type = some .string) (h5 : f5.type = tk) (hk : P.underlying tk = some (.slice ti)) (hi0 : P.underlying ti = some (.int .i64)) (hCi : P.cellsOf ti = 1) (hl : P.underlying tl = some (.slice te)) (hT : EnTy P te tb tev te2)
    (hv : Value.okWide P w r b0 ts v) (h : DataW.Trod enc P w base spare held ts v d p) : ∃ acs, ReadsA w v acs := by
  obtain ⟨a0, len, cap, rfl⟩ := okWide_slice hts hv
  obtain ⟨fuel, hf⟩ := h
  have hf2 : DataW.trod enc P w base spare held fuel ts [.slice a0 len cap] = some (d, p) := hf
  rcases open_slice hts hf2 with ⟨hcs, _⟩ | ⟨a, len1, cap1, m, n, DD, Pl, hcs, hb, hle, hm, hmm, _, hi⟩
  · cases hcs
    exact ⟨[], none, 0, rfl, fun i hi => by simp at hi⟩
  · cases hcs
    have hlm : len ≤ m := by rw [hmm]; split <;> omega
    have key : ∀ i, i < len → ∃ q : Ac, q.fine w ∧ w.cell? (a.add (i * 6)) = some (.int .i64 q.op) ∧ w.cell? (a.add (i * 6 + 1)) = some (.int .i64 q.n) ∧ w.cell? (a.add (i * 6 + 2)) = some (.int .i64 q.m) ∧ w.cell? (a.add (i * 6 + 3)) = some q.vl ∧ w.cell? (a.add (i * 6 + 4)) = some (.string (B q.text)) ∧ w.cell? (a.add (i * 6 + 5)) = some q.vk := by
      intro i hil
      obtain ⟨cs, hc, hr⟩ := hi i (by omega)
      rw [hC] at hc
      obtain ⟨q, rfl, hq⟩ := open_act ht hone hC h0 h1 h2 h3 h4 h5 hk hi0 hCi hl hT hr
      obtain ⟨_, _, hat⟩ := World.cells?_some hc
      have c0 := hat 0 (by omega)
      have c1 := hat 1 (by omega)
      have c2 := hat 2 (by omega)
      have c3 := hat 3 (by omega)
      have c4 := hat 4 (by omega)
      have c5 := hat 5 (by omega)
      rw [Go.Deep.add_add] at c0 c1 c2 c3 c4 c5
      exact ⟨q, hq, c0, c1, c2, c3, c4, c5⟩
    obtain ⟨f, hf⟩ : ∃ f : Nat → Ac, ∀ i, i < len → (f i).fine w ∧ w.cell? (a.add (i * 6)) = some (.int .i64 (f i).op) ∧ w.cell? (a.add (i * 6 + 1)) = some (.int .i64 (f i).n) ∧ w.cell? (a.add (i * 6 + 2)) = some (.int .i64 (f i).m) ∧ w.cell? (a.add (i * 6 + 3)) = some (f i).vl ∧ w.cell? (a.add (i * 6 + 4)) = some (.string (B (f i).text)) ∧ w.cell? (a.add (i * 6 + 5)) = some (f i).vk := by
      refine ⟨fun i => if h : i < len then Classical.choose (key i h) else ⟨0, 0, 0, [], .slice none 0 0, [], [], .slice none 0 0⟩, fun i hil => ?_⟩
      have hs := Classical.choose_spec (key i hil)
      simp only [dif_pos hil]
      exact hs
    obtain ⟨b, off, spot⟩ := a
    refine ⟨(List.range len).map f, some ⟨b, off, spot⟩, cap, by simp, fun i hi => ?_⟩
    have hil : i < len := by simpa using hi
    have hspot : spot = none := by simpa [Addr.add] using World.cell?_spot (hf 0 (by omega)).2.1
    subst hspot
    obtain ⟨hq, c0, c1, c2, c3, c4, c5⟩ := hf i hil
    rw [Go.WideShapes.add_plain] at c0 c1 c2 c3 c4 c5
    have e1 : ((List.range len).map f)[i] = f i := by simp
    rw [e1]
    exact ⟨hq, b, off, rfl, c0, c1, c2, c3, c4, c5⟩
end
end Go.Proofs.YtmfhipjceeijmaaGreatDoor.G
