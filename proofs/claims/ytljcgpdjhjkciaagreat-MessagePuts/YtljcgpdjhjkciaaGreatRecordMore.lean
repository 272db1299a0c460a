/-
  More of chapter 6 over lists: marks of which none is idle, places that are asked in order, where epochs turn. No program in this text.
-/
import Derived.Test.YtljcgpdjhjkciaaGreatRecordSpec
namespace Go.Proofs.YtljcgpdjhjkciaaGreat.R

theorem epochAt_snoc (ms : List Mk) (m : Mk) (p : Int) : epochAt (ms ++ [m]) p = if m.2 ≤ p then m.1 else epochAt ms p := by
  unfold epochAt; rw [List.foldl_append]; rfl
theorem fold_skip : ∀ (l : List Mk) (p n : Int), (∀ m ∈ l, p < m.2) → l.foldl (fun n m => if m.2 ≤ p then m.1 else n) n = n
  | [], _, _, _ => rfl
  | m :: l, p, n, h => by
    rw [List.foldl_cons, if_neg (by have := h m (by simp); omega)]
    exact fold_skip l p n fun x hx => h x (by simp [hx])
theorem epochAt_take {K : List Mk} {j : Nat} {p : Int} (h : ∀ m ∈ K.drop j, p < m.2) : epochAt (K.take j) p = epochAt K p := by
  have e : epochAt K p = epochAt (K.take j ++ K.drop j) p := by rw [List.take_append_drop]
  rw [e]
  unfold epochAt
  rw [List.foldl_append, fold_skip _ _ _ h]
theorem fold_congr : ∀ (l : List Mk) (p q n : Int), (∀ m ∈ l, m.2 ≤ p ↔ m.2 ≤ q) → l.foldl (fun n m => if m.2 ≤ p then m.1 else n) n = l.foldl (fun n m => if m.2 ≤ q then m.1 else n) n
  | [], _, _, _, _ => rfl
  | m :: l, p, q, n, h => by
    rw [List.foldl_cons, List.foldl_cons]
    have h1 := h m (by simp)
    by_cases hp : m.2 ≤ p
    · rw [if_pos hp, if_pos (h1.1 hp)]
      exact fold_congr l p q _ fun x hx => h x (by simp [hx])
    · rw [if_neg hp, if_neg (fun h2 => hp (h1.2 h2))]
      exact fold_congr l p q _ fun x hx => h x (by simp [hx])
theorem epochAt_congr {ms : List Mk} {p q : Int} (h : ∀ m ∈ ms, m.2 ≤ p ↔ m.2 ≤ q) : epochAt ms p = epochAt ms q := fold_congr ms p q 0 h

/-- Marks whose Firsts rise, and that tell the same epochs. -/
def Rise (K : List Mk) : Prop := K.Pairwise fun x y => x.2 < y.2
def Good (K ms : List Mk) : Prop := Rise K ∧ ∀ p, epochAt K p = epochAt ms p
theorem good_nil : Good [] [] := ⟨List.Pairwise.nil, fun _ => rfl⟩
theorem good_step {K ms : List Mk} {j : Nat} {m : Mk} (h : Good K ms) (h1 : ∀ x ∈ K.drop j, m.2 ≤ x.2) (h2 : ∀ x ∈ K.take j, x.2 < m.2) : Good (K.take j ++ [m]) (ms ++ [m]) := by
  refine ⟨List.pairwise_append.2 ⟨h.1.sublist (List.take_sublist _ _), List.pairwise_singleton _ _, fun a ha b hb => ?_⟩, fun p => ?_⟩
  · rw [List.mem_singleton] at hb
    rw [hb]
    exact h2 a ha
  · rw [epochAt_snoc, epochAt_snoc]
    by_cases hp : m.2 ≤ p
    · rw [if_pos hp, if_pos hp]
    · rw [if_neg hp, if_neg hp, ← h.2 p]
      exact epochAt_take fun x hx => by have := h1 x hx; omega
theorem take_low {K : List Mk} {j : Nat} {z : Int} (h : Rise K) (hj : j < K.length) (hz : K[j].2 < z) : ∀ x ∈ K.take (j + 1), x.2 < z := by
  intro x hx
  rw [List.take_succ_eq_append_getElem hj, List.mem_append] at hx
  rcases hx with hx | hx
  · have h2 : (K.take j ++ [K[j]]).Pairwise fun x y => x.2 < y.2 := by rw [← List.take_succ_eq_append_getElem hj]; exact h.sublist (List.take_sublist _ _)
    have := (List.pairwise_append.1 h2).2.2 x hx K[j] (by simp)
    omega
  · rw [List.mem_singleton] at hx
    rw [hx]; exact hz
theorem drop_high {K : List Mk} {j : Nat} {z : Int} (hj : j < K.length) (hz : z ≤ K[j].2) (h : ∀ x ∈ K.drop (j + 1), z ≤ x.2) : ∀ x ∈ K.drop j, z ≤ x.2 := by
  intro x hx
  rw [List.drop_eq_getElem_cons hj, List.mem_cons] at hx
  rcases hx with rfl | hx
  · exact hz
  · exact h x hx
theorem drop_above {K : List Mk} {j : Nat} {p : Int} (h : Rise K) (hj : j < K.length) (hz : p < K[j].2) : ∀ x ∈ K.drop j, p < x.2 := by
  intro x hx
  rw [List.drop_eq_getElem_cons hj, List.mem_cons] at hx
  rcases hx with rfl | hx
  · exact hz
  · have h2 : (K[j] :: K.drop (j + 1)).Pairwise fun x y => x.2 < y.2 := by rw [← List.drop_eq_getElem_cons hj]; exact h.sublist (List.drop_sublist _ _)
    have := (List.pairwise_cons.1 h2).1 x hx
    omega

/-- What was seen of marks that rise, up to a place. -/
def Seen (K : List Mk) (j : Nat) (q p : Int) : Prop := j ≤ K.length ∧ (∀ m ∈ K.take j, m.2 ≤ p) ∧ q = epochAt (K.take j) p
theorem seen_start (K : List Mk) (p : Int) : Seen K 0 0 p := ⟨Nat.zero_le _, fun m hm => by simp at hm, rfl⟩
theorem seen_mono {K : List Mk} {j : Nat} {q p p' : Int} (h : Seen K j q p) (hp : p ≤ p') : Seen K j q p' := by
  obtain ⟨h1, h2, h3⟩ := h
  refine ⟨h1, fun m hm => Int.le_trans (h2 m hm) hp, h3.trans (epochAt_congr fun m hm => ?_)⟩
  have := h2 m hm
  omega
theorem seen_step {K : List Mk} {j : Nat} {q p : Int} (h : Seen K j q p) (hj : j < K.length) (hp : K[j].2 ≤ p) : Seen K (j + 1) K[j].1 p := by
  obtain ⟨h1, h2, h3⟩ := h
  refine ⟨hj, fun m hm => ?_, ?_⟩
  · rw [List.take_succ_eq_append_getElem hj, List.mem_append, List.mem_singleton] at hm
    rcases hm with hm | rfl
    · exact h2 m hm
    · exact hp
  · rw [List.take_succ_eq_append_getElem hj, epochAt_snoc, if_pos hp]
theorem seen_end {K : List Mk} {j : Nat} {q p : Int} (h : Seen K j q p) (hr : Rise K) (he : ∀ hj : j < K.length, p < K[j].2) : q = epochAt K p := by
  obtain ⟨h1, h2, h3⟩ := h
  rw [h3]
  refine epochAt_take fun m hm => ?_
  by_cases hj : j < K.length
  · exact drop_above hr hj (he hj) m hm
  · rw [List.drop_of_length_le (by omega)] at hm
    simp at hm

/-- The places at which an epoch may turn. -/
def hi (ms : List Mk) : List Int := (ms.filter fun m => decide (1 < m.2)).map (·.2)
theorem hi_snoc_in {ms : List Mk} {m : Mk} (h : 1 < m.2) : hi (ms ++ [m]) = hi ms ++ [m.2] := by unfold hi; rw [List.filter_append]; simp [h]
theorem hi_snoc_out {ms : List Mk} {m : Mk} (h : ¬ 1 < m.2) : hi (ms ++ [m]) = hi ms := by unfold hi; rw [List.filter_append]; simp [h]
theorem mem_hi {ms : List Mk} {m : Mk} (h : m ∈ ms) (h1 : 1 < m.2) : m.2 ∈ hi ms := by
  unfold hi
  rw [List.mem_map]
  exact ⟨m, List.mem_filter.2 ⟨h, decide_eq_true h1⟩, rfl⟩
theorem hi_pos {ms : List Mk} {x : Int} (h : x ∈ hi ms) : 1 < x := by
  unfold hi at h
  rw [List.mem_map] at h
  obtain ⟨m, hm, rfl⟩ := h
  exact of_decide_eq_true (List.mem_filter.1 hm).2
theorem hi_len (ms : List Mk) : (hi ms).length ≤ ms.length := by
  unfold hi
  rw [List.length_map]
  exact List.length_filter_le _ _
def turnsL (a b : List Mk) : List Int := 1 :: (hi a ++ hi b)
def sorted (l : List Int) : List Int := l.mergeSort fun x y => decide (x ≤ y)
theorem sorted_rise (l : List Int) : (sorted l).Pairwise fun x y => x ≤ y := by
  have h := List.pairwise_mergeSort (le := fun x y : Int => decide (x ≤ y)) (fun a b c h1 h2 => by simp at h1 h2 ⊢; omega) (fun a b => by simp; omega) l
  exact h.imp fun h => of_decide_eq_true h
theorem mem_sorted {l : List Int} {x : Int} : x ∈ sorted l ↔ x ∈ l := List.mem_mergeSort
theorem sorted_len (l : List Int) : (sorted l).length = l.length := List.length_mergeSort l
theorem turns_pos {a b : List Mk} {x : Int} (h : x ∈ sorted (turnsL a b)) : 1 ≤ x := by
  rw [mem_sorted] at h
  unfold turnsL at h
  rw [List.mem_cons, List.mem_append] at h
  rcases h with rfl | h | h
  · exact Int.le_refl _
  · have := hi_pos h; omega
  · have := hi_pos h; omega
theorem turns_len (a b : List Mk) : (sorted (turnsL a b)).length ≤ a.length + b.length + 1 := by
  have h1 := hi_len a
  have h2 := hi_len b
  rw [sorted_len]
  unfold turnsL
  rw [List.length_cons, List.length_append]
  omega
theorem greatest : ∀ (l : List Int) (q x0 : Int), x0 ∈ l → x0 ≤ q → ∃ t ∈ l, t ≤ q ∧ ∀ x ∈ l, x ≤ q → x ≤ t
  | [], _, _, h, _ => by simp at h
  | y :: l, q, x0, h, hx => by
    by_cases hy : ∃ x1 ∈ l, x1 ≤ q
    · obtain ⟨x1, h1, h2⟩ := hy
      obtain ⟨t, ht, htq, hmax⟩ := greatest l q x1 h1 h2
      by_cases hyt : y ≤ q ∧ t < y
      · refine ⟨y, by simp, hyt.1, fun x hx hxq => ?_⟩
        rcases List.mem_cons.1 hx with rfl | hx
        · exact Int.le_refl _
        · have := hmax x hx hxq; omega
      · refine ⟨t, by simp [ht], htq, fun x hx hxq => ?_⟩
        rcases List.mem_cons.1 hx with rfl | hx
        · have h3 : ¬ t < x := fun h => hyt ⟨hxq, h⟩
          omega
        · exact hmax x hx hxq
    · have hyq : y ≤ q := by
        rcases List.mem_cons.1 h with rfl | h
        · exact hx
        · exact absurd ⟨x0, h, hx⟩ hy
      refine ⟨y, by simp, hyq, fun x hx hxq => ?_⟩
      rcases List.mem_cons.1 hx with rfl | hx
      · exact Int.le_refl _
      · exact absurd ⟨x, hx, hxq⟩ hy
/-- What holds at the places at which epochs turn holds between them. -/
theorem cover {a b : List Mk} {i : Nat} {q : Int} (hq : 1 ≤ q) (hin : ∀ x ∈ (sorted (turnsL a b)).take i, agree a b x = true) (hab : ∀ x ∈ (sorted (turnsL a b)).drop i, q < x) : agree a b q = true := by
  have h1 : (1 : Int) ∈ sorted (turnsL a b) := mem_sorted.2 (by unfold turnsL; simp)
  obtain ⟨t, ht, htq, hmax⟩ := greatest _ q 1 h1 hq
  have ht1 := hmax 1 h1 hq
  have hta : agree a b t = true := by
    rw [← List.take_append_drop i (sorted (turnsL a b)), List.mem_append] at ht
    rcases ht with ht | ht
    · exact hin t ht
    · have := hab t ht; omega
  have key : ∀ (ms : List Mk), (∀ x ∈ hi ms, x ∈ sorted (turnsL a b)) → epochAt ms q = epochAt ms t := fun ms hms => epochAt_congr fun m hm => by
    constructor
    · intro hmq
      by_cases h2 : 1 < m.2
      · exact hmax _ (hms _ (mem_hi hm h2)) hmq
      · omega
    · intro; omega
  have ka := key a fun x hx => mem_sorted.2 (by unfold turnsL; simp [hx])
  have kb := key b fun x hx => mem_sorted.2 (by unfold turnsL; simp [hx])
  unfold agree at hta ⊢
  rw [ka, kb]
  exact hta
theorem drop_ge {T : List Int} (hs : T.Pairwise fun x y => x ≤ y) {i : Nat} (hi : i < T.length) : ∀ x ∈ T.drop i, T[i] ≤ x := by
  intro x hx
  rw [List.drop_eq_getElem_cons hi, List.mem_cons] at hx
  rcases hx with rfl | hx
  · exact Int.le_refl _
  · have h2 : (T[i] :: T.drop (i + 1)).Pairwise fun x y => x ≤ y := by rw [← List.drop_eq_getElem_cons hi]; exact hs.sublist (List.drop_sublist _ _)
    exact (List.pairwise_cons.1 h2).1 x hx
theorem fork_part {a b : List Mk} {la lb : Int} {i : Nat} (hi : i < (sorted (turnsL a b)).length) (hin : ∀ x ∈ (sorted (turnsL a b)).take i, agree a b x = true) (hl : (sorted (turnsL a b))[i] ≤ max (min la lb) 0) (hp : agree a b (sorted (turnsL a b))[i] = false) :
    (fork a la b lb : Int) = (sorted (turnsL a b))[i] - 1 := by
  have h1 := turns_pos (a := a) (b := b) (List.getElem_mem hi)
  have hd := drop_ge (sorted_rise (turnsL a b)) hi
  generalize hz : (sorted (turnsL a b))[i] = z at *
  have hm : fork a la b lb = (z - 1).toNat := by
    refine fork_is (by omega) (fun q hq => cover (i := i) (by omega) hin fun x hx => ?_) (fun _ => ?_)
    · have := hd x hx; omega
    · rw [show (((z - 1).toNat : Nat) : Int) + 1 = z by omega]; exact hp
  rw [hm]; omega
theorem fork_whole {a b : List Mk} {la lb : Int} {i : Nat} (hin : ∀ x ∈ (sorted (turnsL a b)).take i, agree a b x = true) (he : ∀ hi : i < (sorted (turnsL a b)).length, max (min la lb) 0 < (sorted (turnsL a b))[i]) :
    (fork a la b lb : Int) = max (min la lb) 0 := by
  have hm : fork a la b lb = (max (min la lb) 0).toNat := by
    refine fork_is (by omega) (fun q hq => cover (i := i) (by omega) hin fun x hx => ?_) (fun h => by omega)
    by_cases hi : i < (sorted (turnsL a b)).length
    · have h1 := drop_ge (sorted_rise (turnsL a b)) hi x hx
      have h2 := he hi
      omega
    · rw [List.drop_of_length_le (by omega)] at hx
      simp at hx
  rw [hm]; omega

/-- Marks of a row, one entry after the other. -/
def lastE (o : Option Int) : List En → Option Int
  | [] => o
  | e :: l => lastE (some e.epoch) l
theorem marksF_snoc : ∀ (l : List En) (o : Option Int) (e : En), marksF o (l ++ [e]) = marksF o l ++ (if lastE o l = some e.epoch then [] else [(e.epoch, e.pos)])
  | [], o, e => by
    rw [List.nil_append, marksF, lastE]
    split
    · rename_i h; simp [marksF, h]
    · rename_i h; simp [marksF, h]
  | x :: l, o, e => by
    rw [List.cons_append, marksF, marksF, lastE, marksF_snoc l (some x.epoch) e]
    split <;> simp
theorem lastE_snoc : ∀ (l : List En) (o : Option Int) (e : En), lastE o (l ++ [e]) = some e.epoch
  | [], _, _ => rfl
  | x :: l, _, e => lastE_snoc l (some x.epoch) e
theorem lastE_take {l : List En} {i : Nat} (h : i < l.length) : lastE none (l.take (i + 1)) = some l[i].epoch := by
  rw [List.take_succ_eq_append_getElem h, lastE_snoc]
theorem marks_first {l : List En} (h : 0 < l.length) : marks (l.take 1) = [(l[0].epoch, l[0].pos)] := by
  match l, h with
  | e :: l, _ => rfl
theorem marks_same {l : List En} {i : Nat} (h : i + 1 < l.length) (he : l[i + 1].epoch = l[i].epoch) : marks (l.take (i + 1 + 1)) = marks (l.take (i + 1)) := by
  unfold marks
  rw [List.take_succ_eq_append_getElem h, marksF_snoc, lastE_take (by omega), if_pos (by rw [he]), List.append_nil]
theorem marks_new {l : List En} {i : Nat} (h : i + 1 < l.length) (he : ¬ l[i + 1].epoch = l[i].epoch) : marks (l.take (i + 1 + 1)) = marks (l.take (i + 1)) ++ [(l[i + 1].epoch, l[i + 1].pos)] := by
  unfold marks
  rw [List.take_succ_eq_append_getElem h, marksF_snoc, lastE_take (by omega), if_neg (fun h2 => he (Option.some.inj h2).symm)]
theorem marksF_len : ∀ (l : List En) (o : Option Int), (marksF o l).length ≤ l.length
  | [], _ => by simp [marksF]
  | e :: l, o => by
    rw [marksF]
    have := marksF_len l (some e.epoch)
    split <;> simp <;> omega
theorem marks_len (l : List En) : (marks l).length ≤ l.length := marksF_len l none
end Go.Proofs.YtljcgpdjhjkciaaGreat.R
