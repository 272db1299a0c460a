/-
  The examples of chapter 8 over any disk that keeps its contracts.
-/
import Derived.Test.YtamfhndcekcloaaDiskC
namespace Go.Proofs.Ytamfhndcekcloaa.D
open Go.RowKit
attribute [local go_sem] ext_Bd ext_Bl ext_Bt toList_B add_B size_B get_Bt

theorem readsI_nil (w : World) : ReadsI w (.slice none 0 0) [] := ⟨none, 0, rfl, fun i hi => by simp at hi⟩
theorem readsI_one {w : World} {h : Nat} {z : Int} (hz : i64B z) (hh : w.heap[h]? = some (.cells #[.int .i64 z] 3 (0, 0))) : ReadsI w (.slice (some ⟨h, 0, none⟩) 1 1) [z] := by
  refine ⟨some ⟨h, 0, none⟩, 1, rfl, fun i hi => ?_⟩
  obtain rfl : i = 0 := by simpa using hi
  exact ⟨hz, h, 0, rfl, by simp [World.cell?, hh]⟩
set_option maxHeartbeats 4000000 in
set_option maxRecDepth 100000 in
theorem shown8_l (C : DC) (w : World) :
    Calls Try.prog 9 #[] w fun x w' => x = .returned (.bool true) ∧ Below w.heap.size w w' := by
  have E1 : Hid (D.append 100 [97] [120, 121] [] = (0, [⟨[97], [120, 121], 0⟩])) := Lib.hid (by kernel_rfl)
  have E2 : Hid (D.sync [97] [⟨[97], [120, 121], 0⟩] = (0, [⟨[97], [120, 121], 2⟩])) := Lib.hid (by kernel_rfl)
  have E3 : Hid (D.append 100 [97] [122] [⟨[97], [120, 121], 2⟩] = (0, [⟨[97], [120, 121, 122], 2⟩])) := Lib.hid (by kernel_rfl)
  have E4 : Hid (D.crash [] [⟨[97], [120, 121, 122], 2⟩] = [⟨[97], [120, 121], 2⟩]) := Lib.hid (by kernel_rfl)
  have E5 : Hid (D.crash [5] [⟨[97], [120, 121, 122], 2⟩] = [⟨[97], [120, 121, 122], 3⟩]) := Lib.hid (by kernel_rfl)
  have E6 : Hid (D.read [97] [⟨[97], [120, 121], 2⟩] = ([120, 121], 0)) := Lib.hid (by kernel_rfl)
  have E7 : Hid (D.read [97] [⟨[97], [120, 121, 122], 3⟩] = ([120, 121, 122], 0)) := Lib.hid (by kernel_rfl)
  have I0 := Lib.hid (inv_nil 100)
  have I1 : Hid (Inv 100 [⟨[97], [120, 121], 0⟩]) := Lib.hid (by have := I0.out.append (n := [97]) (s := [120, 121]); rw [E1.out] at this; exact this)
  have I2 : Hid (Inv 100 [⟨[97], [120, 121], 2⟩]) := Lib.hid (by have := I1.out.sync (n := [97]); rw [E2.out] at this; exact this)
  have I3 : Hid (Inv 100 [⟨[97], [120, 121, 122], 2⟩]) := Lib.hid (by have := I2.out.append (n := [97]) (s := [122]); rw [E3.out] at this; exact this)
  have I5 : Hid (Inv 100 [⟨[97], [120, 121, 122], 3⟩]) := Lib.hid (by have := I3.out.crash (ks := [5]); rw [E5.out] at this; exact this)
  go_enter Try.func9, Try.ntmps9
  go_wp2_with fail
  refine (C.new_ok (bs := w.heap.size) (w := w) 100 (Nat.le_refl _) (by omega) (by omega)).mono ?_
  rintro x w1 ⟨⟨p, S, rfl, hd, hS⟩, hb1⟩
  have HD1 := Lib.hid hd
  have HB1 := Lib.hid hb1
  clear hd hb1
  go_wp2_with fail
  refine (C.append [97] [120, 121] 0 _ HD1.out I0.out (by omega) (by simp) (by simp) E1.out).mono ?_
  rintro x w2 ⟨rfl, ⟨S2, hd2, hg2⟩, hb2⟩
  have HD2 := Lib.hid hd2
  have HB2 := Lib.hid hb2
  have HG2 := Lib.hid hg2
  clear hd2 hb2 hg2
  go_wp2_with fail
  refine (C.sync [97] 0 _ HD2.out I1.out (by omega) (by simp) E2.out).mono ?_
  rintro x w3 ⟨rfl, ⟨S3, hd3, hg3⟩, hb3⟩
  have HD3 := Lib.hid hd3
  have HB3 := Lib.hid (HB2.out.next hb3 HG2.out)
  have HG3 := Lib.hid (HG2.out.next hg3 HB2.out.size)
  clear hd3 hb3 hg3 HB2 HG2
  go_wp2_with fail
  refine (C.append [97] [122] 0 _ HD3.out I2.out (by omega) (by simp) (by simp) E3.out).mono ?_
  rintro x w4 ⟨rfl, ⟨S4, hd4, hg4⟩, hb4⟩
  have HD4 := Lib.hid hd4
  have HB4 := Lib.hid (HB3.out.next hb4 HG3.out)
  have HG4 := Lib.hid (HG3.out.next hg4 HB3.out.size)
  clear hd4 hb4 hg4 HB3 HG3
  go_wp2_with fail
  refine (C.clone HD4.out I3.out (by omega)).mono ?_
  rintro x w5 ⟨⟨q, T, rfl, hc5, hT⟩, hb5⟩
  have HC5 := Lib.hid hc5
  have HD5 := Lib.hid (C.below HD4.out hb5)
  have HB5 := Lib.hid (HB4.out.trans (But.of_below hb5))
  have HTS : Hid (∀ k, S4 k → ¬ T k) := Lib.hid fun k h1 h2 => by
    have := (C.low HD4.out h1).2
    have := hT k h2
    omega
  have HT0 : Hid (∀ k, T k → w.heap.size ≤ k) := Lib.hid fun k h => by
    have := hT k h
    have := HB4.out.size
    have := HB1.out.size
    omega
  clear hc5 hb5 hT HB4
  go_wp2_with fail
  refine (C.crash [] _ HD5.out I3.out (by omega) (fun w' _ => readsI_nil w') (by simp)).mono ?_
  rintro x w6 ⟨rfl, ⟨S6, hd6, hg6⟩, hb6⟩
  rw [E4.out] at hd6
  have HD6 := Lib.hid hd6
  have HC6 := Lib.hid (C.but HC5.out hb6 fun k h1 h2 => HTS.out k h2 h1)
  have HB6 := Lib.hid (HB5.out.next hb6 HG4.out)
  have HTS6 : Hid (∀ k, S6 k → ¬ T k) := Lib.hid fun k h1 h2 => by
    rcases hg6 k h1 with h3 | h3
    · exact HTS.out k h3 h2
    · have := (C.low HC5.out h2).2
      omega
  clear hd6 hg6 hb6 HD5 HC5 HB5 HTS
  go_wp2_with fail
  have HBa := Lib.hid ((Below.refl w6.heap.size w6).alloc (Nat.le_refl _) (.cells #[.int .i64 5] 3))
  have HX7 : Hid ((w6.alloc (.cells #[.int .i64 5] 3)).heap[w6.heap.size]? = some (.cells #[.int .i64 5] 3 (0, 0))) := Lib.hid (heap_alloc_new w6 _)
  have HTN : Hid (¬ T w6.heap.size) := Lib.hid fun h => by
    have := (C.low HC6.out h).2
    omega
  have HC7 := Lib.hid (C.below HC6.out HBa.out)
  have HD7 := Lib.hid (C.below HD6.out HBa.out)
  refine (C.crash [5] _ HC7.out I3.out (by omega) (fun w' h => readsI_one ⟨by omega, by omega⟩ (by rw [h.block _ (by simp) HTN.out]; exact HX7.out)) (by simp)).mono ?_
  rintro x w8 ⟨rfl, ⟨T8, hc8, hg8⟩, hb8⟩
  rw [E5.out] at hc8
  have HC8 := Lib.hid hc8
  have HD8 := Lib.hid (C.but HD7.out hb8 HTS6.out)
  have HB8 : Hid (Below w.heap.size w w8) := Lib.hid (by
    have h1 := HB6.out
    have h2 := hb8
    have h3 := HBa.out
    refine ⟨h2.os.trans (h3.os.trans (h1.os.trans HB1.out.os)), h2.tape.trans (h3.tape.trans (h1.tape.trans HB1.out.tape)), h2.output.trans (h3.output.trans (h1.output.trans HB1.out.output)), Nat.le_trans HB1.out.size (Nat.le_trans h1.size (Nat.le_trans h3.size h2.size)), fun k hk => ?_⟩
    have k1 : k < w1.heap.size := Nat.lt_of_lt_of_le hk HB1.out.size
    have k6 : k < w6.heap.size := Nat.lt_of_lt_of_le k1 h1.size
    have k7 := Nat.lt_of_lt_of_le k6 h3.size
    rw [h2.block k k7 (fun h => by have := HT0.out k h; omega), h3.block k k6, h1.block k k1 (fun h => by have := hS k h; omega), HB1.out.block k hk])
  clear hc8 hg8 hb8
  go_wp2_with fail
  refine (C.read [97] [120, 121] 0 HD8.out I2.out (by omega) (by simp) E6.out).mono ?_
  rintro x w9 ⟨rfl, hb9⟩
  have HC9 := Lib.hid (C.below HC8.out hb9)
  have HB9 := Lib.hid (HB8.out.trans (hb9.mono HB8.out.size))
  clear hb9
  go_wp2_with fail
  refine (C.read [97] [120, 121, 122] 0 HC9.out I5.out (by omega) (by simp) E7.out).mono ?_
  rintro x w10 ⟨rfl, hb10⟩
  have HB10 := Lib.hid (HB9.out.trans (hb10.mono HB9.out.size))
  clear hb10
  go_wp2
  go_ret
  exact ⟨rfl, HB10.out⟩
end Go.Proofs.Ytamfhndcekcloaa.D
