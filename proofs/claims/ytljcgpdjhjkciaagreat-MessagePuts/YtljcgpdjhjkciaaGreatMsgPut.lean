/-
  Messages as values of the program, and the walks of Put, Right and Epoch.
-/
import Derived.Test.YtljcgpdjhjkciaaGreatMsgKinds
namespace Go.Proofs.YtljcgpdjhjkciaaGreat
open Go.RowKit
attribute [local go_sem] ext_Bd ext_Bl ext_Bt toList_B add_B size_B get_Bt

/-- A message: its numbers, its lists, and the slices in which these lie. -/
inductive MV where
  | beat_ (n1 n2 n3 : Int)
  | join_ (n1 n2 : Int)
  | lease_ (n1 n2 : Int)
  | view_ (n1 : Int) (l1 : List Int) (v1 : Value) (l2 : List Int) (v2 : Value) (l3 : List Int) (v3 : Value)
  | where_ (n1 : Int)
  | have_ (n1 n2 n3 : Int) (l1 : List R.Mk) (v1 : Value)
  | logs_ (n1 n2 n3 n4 n5 n6 : Int) (l1 : List EV) (v1 : Value)
  | ack_ (n1 n2 n3 : Int)
  | ask_ (n1 n2 n3 n4 : Int)
  | told_ (n1 n2 n3 n4 : Int)
  | append_ (n1 : Int) (bt : E.Bat) (v1 : Value)
  | read_ (n1 n2 : Int) (s : List UInt8)
  | reply_ (n1 n2 n3 n4 n5 n6 : Int)
  | result_ (n1 n2 n3 : Int) (l1 : List E.Ev) (v1 : Value)
def MV.val : MV → Value
  | .beat_ n1 n2 n3 => .iface 57 (.agg #[.int .i64 n1, .int .i64 n2, .int .i64 n3])
  | .join_ n1 n2 => .iface 59 (.agg #[.int .i64 n1, .int .i64 n2])
  | .lease_ n1 n2 => .iface 61 (.agg #[.int .i64 n1, .int .i64 n2])
  | .view_ n1 _ v1 _ v2 _ v3 => .iface 63 (.agg #[.int .i64 n1, v1, v2, v3])
  | .where_ n1 => .iface 65 (.agg #[.int .i64 n1])
  | .have_ n1 n2 n3 _ v1 => .iface 67 (.agg #[.int .i64 n1, .int .i64 n2, .int .i64 n3, v1])
  | .logs_ n1 n2 n3 n4 n5 n6 _ v1 => .iface 69 (.agg #[.int .i64 n1, .int .i64 n2, .int .i64 n3, .int .i64 n4, .int .i64 n5, .int .i64 n6, v1])
  | .ack_ n1 n2 n3 => .iface 51 (.agg #[.int .i64 n1, .int .i64 n2, .int .i64 n3])
  | .ask_ n1 n2 n3 n4 => .iface 71 (.agg #[.int .i64 n1, .int .i64 n2, .int .i64 n3, .int .i64 n4])
  | .told_ n1 n2 n3 n4 => .iface 73 (.agg #[.int .i64 n1, .int .i64 n2, .int .i64 n3, .int .i64 n4])
  | .append_ n1 bt v1 => .iface 75 (.agg #[.int .i64 n1, .string (B bt.stream), .int .i64 bt.expect, .int .i64 bt.session, .int .i64 bt.seq, v1])
  | .read_ n1 n2 s => .iface 77 (.agg #[.int .i64 n1, .string (B s), .int .i64 n2])
  | .reply_ n1 n2 n3 n4 n5 n6 => .iface 81 (.agg #[.int .i64 n1, .int .i64 n2, .int .i64 n3, .int .i64 n4, .int .i64 n5, .int .i64 n6])
  | .result_ n1 n2 n3 _ v1 => .iface 83 (.agg #[.int .i64 n1, .int .i64 n2, .int .i64 n3, v1])
def MV.kind : MV → Nat
  | .beat_ _ _ _ => 1
  | .join_ _ _ => 2
  | .lease_ _ _ => 3
  | .view_ _ _ _ _ _ _ _ => 4
  | .where_ _ => 5
  | .have_ _ _ _ _ _ => 6
  | .logs_ _ _ _ _ _ _ _ _ => 7
  | .ack_ _ _ _ => 8
  | .ask_ _ _ _ _ => 9
  | .told_ _ _ _ _ => 10
  | .append_ _ _ _ => 11
  | .read_ _ _ _ => 12
  | .reply_ _ _ _ _ _ _ => 13
  | .result_ _ _ _ _ _ => 14
def MV.parts : MV → List M.Pt
  | .beat_ n1 n2 n3 => [.n n1, .n n2, .n n3]
  | .join_ n1 n2 => [.n n1, .n n2]
  | .lease_ n1 n2 => [.n n1, .n n2]
  | .view_ n1 l1 _ l2 _ l3 _ => [.n n1, .c l1, .c l2, .c l3]
  | .where_ n1 => [.n n1]
  | .have_ n1 n2 n3 l1 _ => [.n n1, .n n2, .n n3, .m l1]
  | .logs_ n1 n2 n3 n4 n5 n6 l1 _ => [.n n1, .n n2, .n n3, .n n4, .n n5, .n n6, .e (ensOf l1)]
  | .ack_ n1 n2 n3 => [.n n1, .n n2, .n n3]
  | .ask_ n1 n2 n3 n4 => [.n n1, .n n2, .n n3, .n n4]
  | .told_ n1 n2 n3 n4 => [.n n1, .n n2, .n n3, .n n4]
  | .append_ n1 bt _ => [.n n1, .b bt]
  | .read_ n1 n2 s => [.n n1, .s s, .n n2]
  | .reply_ n1 n2 n3 n4 n5 n6 => [.n n1, .n n2, .n n3, .n n4, .n n5, .n n6]
  | .result_ n1 n2 n3 l1 _ => [.n n1, .n n2, .n n3, .v l1]
/-- Its slices read so, and none of its texts is too long. -/
def MV.Reads (w : World) : MV → Prop
  | .beat_ _ _ _ => True
  | .join_ _ _ => True
  | .lease_ _ _ => True
  | .view_ _ l1 v1 l2 v2 l3 v3 => ReadsI w v1 l1 ∧ ReadsI w v2 l2 ∧ ReadsI w v3 l3
  | .where_ _ => True
  | .have_ _ _ _ l1 v1 => ReadsM w v1 l1
  | .logs_ _ _ _ _ _ _ l1 v1 => ReadsR w v1 l1 ∧ (∀ e ∈ l1, E.Small e.1.b)
  | .ack_ _ _ _ => True
  | .ask_ _ _ _ _ => True
  | .told_ _ _ _ _ => True
  | .append_ _ bt v1 => ReadsE w v1 bt.events ∧ E.Small bt
  | .read_ _ _ s => s.length ≤ 9223372036854775807
  | .reply_ _ _ _ _ _ _ => True
  | .result_ _ _ _ l1 v1 => ReadsE w v1 l1 ∧ (∀ e ∈ l1, e.1.length ≤ 9223372036854775807 ∧ e.2.length ≤ 9223372036854775807)
def MV.epoch : MV → Int
  | .beat_ _ n2 _ => n2
  | .join_ _ _ => 0
  | .lease_ n1 _ => n1
  | .view_ n1 _ _ _ _ _ _ => n1
  | .where_ _ => 0
  | .have_ n1 _ _ _ _ => n1
  | .logs_ n1 _ _ _ _ _ _ _ => n1
  | .ack_ n1 _ _ => n1
  | .ask_ n1 _ _ _ => n1
  | .told_ n1 _ _ _ => n1
  | .append_ _ _ _ => 0
  | .read_ _ _ _ => 0
  | .reply_ _ _ _ _ _ _ => 0
  | .result_ _ _ _ _ _ => 0
def MV.right (m : MV) : Bool := m.parts.all M.rightP
def MV.bytes (m : MV) : List UInt8 := M.bytesM ⟨m.kind, m.parts⟩
def MV.out (m : MV) : List UInt8 := if m.right = true then m.bytes else []
def stepA : MV → St → St
  | .beat_ n1 n2 n3, o => put1 ([n1, n2, n3].all M.numR) (1 :: [n1, n2, n3].flatMap M.putI) o
  | .join_ n1 n2, o => put1 ([n1, n2].all M.numR) (2 :: [n1, n2].flatMap M.putI) o
  | .lease_ n1 n2, o => put1 ([n1, n2].all M.numR) (3 :: [n1, n2].flatMap M.putI) o
  | .view_ n1 l1 _ l2 _ l3 _, o => put1 (decide (l3.length ≤ 6) && l3.all M.numR) (N.putL l3.length ++ l3.flatMap M.putI) (put1 (decide (l2.length ≤ 6) && l2.all M.numR) (N.putL l2.length ++ l2.flatMap M.putI) (put1 (decide (l1.length ≤ 6) && l1.all M.numR) (N.putL l1.length ++ l1.flatMap M.putI) (put1 ([n1].all M.numR) (4 :: [n1].flatMap M.putI) o)))
  | .where_ n1, o => put1 ([n1].all M.numR) (5 :: [n1].flatMap M.putI) o
  | _, o => o
def stepB : MV → St → St
  | .have_ n1 n2 n3 l1 _, o => put1 (decide (l1.length ≤ 30) && l1.all (fun m => M.numR m.1 && M.numR m.2)) (N.putL l1.length ++ l1.flatMap M.putM) (put1 ([n1, n2, n3].all M.numR) (6 :: [n1, n2, n3].flatMap M.putI) o)
  | .logs_ n1 n2 n3 n4 n5 n6 l1 _, o => put1 (decide (l1.length ≤ 8) && (ensOf l1).all R.right) (N.putL l1.length ++ (ensOf l1).flatMap R.putEn) (put1 ([n1, n2, n3, n4, n5, n6].all M.numR) (7 :: [n1, n2, n3, n4, n5, n6].flatMap M.putI) o)
  | .ack_ n1 n2 n3, o => put1 ([n1, n2, n3].all M.numR) (8 :: [n1, n2, n3].flatMap M.putI) o
  | .ask_ n1 n2 n3 n4, o => put1 ([n1, n2, n3, n4].all M.numR) (9 :: [n1, n2, n3, n4].flatMap M.putI) o
  | .told_ n1 n2 n3 n4, o => put1 ([n1, n2, n3, n4].all M.numR) (10 :: [n1, n2, n3, n4].flatMap M.putI) o
  | _, o => o
def stepC : MV → St → St
  | .append_ n1 bt _, o => put1 (decide (E.fits bt = 0)) (E.putBat bt) (put1 ([n1].all M.numR) (11 :: [n1].flatMap M.putI) o)
  | .read_ n1 n2 s, o => put1 (M.numR n2) (M.putI n2) (put1 (nameL s) (N.putT s) (put1 ([n1].all M.numR) (12 :: [n1].flatMap M.putI) o))
  | .reply_ n1 n2 n3 n4 n5 n6, o => put1 ([n3, n4, n5, n6].all M.numR) ([n3, n4, n5, n6].flatMap M.putI) (put1 ([n1, n2].all M.numR) (13 :: [n1, n2].flatMap M.putI) o)
  | .result_ n1 n2 n3 l1 _, o => put1 (decide (l1.length ≤ 16) && l1.all E.right) (N.putL l1.length ++ l1.flatMap E.putEv) (put1 ([n1, n2, n3].all M.numR) (14 :: [n1, n2, n3].flatMap M.putI) o)
  | _, o => o
theorem put1_congr {ok : Bool} {s t : List UInt8} (o : St) (h : ok = true → s = t) : put1 ok s o = put1 ok t o := by
  cases ok
  · cases o <;> simp [put1]
  · rw [h rfl]
theorem flat_congr {α : Type} {f g : α → List UInt8} {l : List α} (h : ∀ a ∈ l, f a = g a) : l.flatMap f = l.flatMap g := by
  induction l with
  | nil => rfl
  | cons a l ih => simp only [List.flatMap_cons]; rw [h a (by simp), ih fun b hb => h b (by simp [hb])]
theorem ens_bytes {n m : Nat} {es : List R.En} (h : (decide (n ≤ m) && es.all R.right) = true) : es.flatMap R.putEn = es.flatMap R.bytes := flat_congr fun a ha => by
  simp only [Bool.and_eq_true, List.all_eq_true] at h
  exact R.putEn_ok (h.2 a ha)
theorem evs_bytes {n m : Nat} {es : List E.Ev} (h : (decide (n ≤ m) && es.all E.right) = true) : es.flatMap E.putEv = es.flatMap E.putE := flat_congr fun a ha => by
  simp only [Bool.and_eq_true, List.all_eq_true] at h
  exact E.putEv_ok (h.2 a ha)
theorem put1_some (ok : Bool) (s : List UInt8) : put1 ok s (some []) = if ok = true then some s else none := by unfold put1; simp
theorem step_all (m : MV) : stepC m (stepB m (stepA m (some []))) = if m.right = true then some m.bytes else none := by
  rw [← put1_some]
  cases m with
  | beat_ n1 n2 n3 =>
    simp only [stepA, stepB, stepC]
    congr 1
  | join_ n1 n2 =>
    simp only [stepA, stepB, stepC]
    congr 1
  | lease_ n1 n2 =>
    simp only [stepA, stepB, stepC]
    congr 1
  | view_ n1 l1 v1 l2 v2 l3 v3 =>
    simp only [stepA, stepB, stepC]
    simp only [put1_put1]
    congr 1
    · simp [MV.right, MV.parts, M.rightP, Bool.and_assoc]
    · simp [MV.bytes, M.bytesM, MV.kind, MV.parts, M.putP]
  | where_ n1 =>
    simp only [stepA, stepB, stepC]
    congr 1
  | have_ n1 n2 n3 l1 v1 =>
    simp only [stepA, stepB, stepC]
    simp only [put1_put1]
    congr 1
    · simp [MV.right, MV.parts, M.rightP, Bool.and_assoc]
    · simp [MV.bytes, M.bytesM, MV.kind, MV.parts, M.putP]
  | logs_ n1 n2 n3 n4 n5 n6 l1 v1 =>
    simp only [stepA, stepB, stepC]
    rw [put1_congr (t := N.putL l1.length ++ (ensOf l1).flatMap R.bytes) _ fun h => by rw [ens_bytes h]]
    simp only [put1_put1]
    congr 1
    · simp [MV.right, MV.parts, M.rightP, Bool.and_assoc]
    · simp [MV.bytes, M.bytesM, MV.kind, MV.parts, M.putP]
  | ack_ n1 n2 n3 =>
    simp only [stepA, stepB, stepC]
    congr 1
  | ask_ n1 n2 n3 n4 =>
    simp only [stepA, stepB, stepC]
    congr 1
  | told_ n1 n2 n3 n4 =>
    simp only [stepA, stepB, stepC]
    congr 1
  | append_ n1 bt v1 =>
    simp only [stepA, stepB, stepC]
    rw [put1_congr (t := E.bytes bt) _ fun h => E.putBat_ok (by simpa using h)]
    simp only [put1_put1]
    congr 1
    · simp [MV.right, MV.parts, M.rightP]
    · simp [MV.bytes, M.bytesM, MV.kind, MV.parts, M.putP]
  | read_ n1 n2 s =>
    simp only [stepA, stepB, stepC]
    simp only [put1_put1]
    congr 1
    · simp [MV.right, MV.parts, M.rightP, Bool.and_assoc]
    · simp [MV.bytes, M.bytesM, MV.kind, MV.parts, M.putP]
  | reply_ n1 n2 n3 n4 n5 n6 =>
    simp only [stepA, stepB, stepC]
    simp only [put1_put1]
    congr 1
    · simp [MV.right, MV.parts, M.rightP, Bool.and_assoc]
    · simp [MV.bytes, M.bytesM, MV.kind, MV.parts, M.putP]
  | result_ n1 n2 n3 l1 v1 =>
    simp only [stepA, stepB, stepC]
    rw [put1_congr (t := N.putL l1.length ++ l1.flatMap E.putE) _ fun h => by rw [evs_bytes h]]
    simp only [put1_put1]
    congr 1
    · simp [MV.right, MV.parts, M.rightP, Bool.and_assoc]
    · simp [MV.bytes, M.bytesM, MV.kind, MV.parts, M.putP]

theorem master_at {p N0 : Nat} {o : St} {w w0 : World} (m : MV) (hr : m.Reads w0) (h : WrAt p o N0 w) (hl : N0 + 300000 ≤ 100000000) (hb0 : Below w0.heap.size w0 w) (hp : w0.heap.size ≤ p) :
    Calls Tryz.prog 21 #[rdP p, m.val] w fun x w' => x = .returned (.tuple #[]) ∧ WrAt p (stepA m o) (N0 + 200000) w' ∧ Wrote p w w' := by
  cases m with
  | beat_ n1 n2 n3 => exact master_beat n1 n2 n3 h hl
  | join_ n1 n2 => exact master_join n1 n2 h hl
  | lease_ n1 n2 => exact master_lease n1 n2 h hl
  | view_ n1 l1 v1 l2 v2 l3 v3 => exact master_view n1 l1 v1 l2 v2 l3 v3 h hl hb0 hp hr.1 hr.2.1 hr.2.2
  | where_ n1 => exact master_where n1 h hl
  | have_ n1 n2 n3 l1 v1 => exact (master_skip 67 _ (by decide) (by decide) (by decide) (by decide) (by decide) h).mono fun _ _ ⟨a, b, c⟩ => ⟨a, b.mono (by omega), c⟩
  | logs_ n1 n2 n3 n4 n5 n6 l1 v1 => exact (master_skip 69 _ (by decide) (by decide) (by decide) (by decide) (by decide) h).mono fun _ _ ⟨a, b, c⟩ => ⟨a, b.mono (by omega), c⟩
  | ack_ n1 n2 n3 => exact (master_skip 51 _ (by decide) (by decide) (by decide) (by decide) (by decide) h).mono fun _ _ ⟨a, b, c⟩ => ⟨a, b.mono (by omega), c⟩
  | ask_ n1 n2 n3 n4 => exact (master_skip 71 _ (by decide) (by decide) (by decide) (by decide) (by decide) h).mono fun _ _ ⟨a, b, c⟩ => ⟨a, b.mono (by omega), c⟩
  | told_ n1 n2 n3 n4 => exact (master_skip 73 _ (by decide) (by decide) (by decide) (by decide) (by decide) h).mono fun _ _ ⟨a, b, c⟩ => ⟨a, b.mono (by omega), c⟩
  | append_ n1 bt v1 => exact (master_skip 75 _ (by decide) (by decide) (by decide) (by decide) (by decide) h).mono fun _ _ ⟨a, b, c⟩ => ⟨a, b.mono (by omega), c⟩
  | read_ n1 n2 s => exact (master_skip 77 _ (by decide) (by decide) (by decide) (by decide) (by decide) h).mono fun _ _ ⟨a, b, c⟩ => ⟨a, b.mono (by omega), c⟩
  | reply_ n1 n2 n3 n4 n5 n6 => exact (master_skip 81 _ (by decide) (by decide) (by decide) (by decide) (by decide) h).mono fun _ _ ⟨a, b, c⟩ => ⟨a, b.mono (by omega), c⟩
  | result_ n1 n2 n3 l1 v1 => exact (master_skip 83 _ (by decide) (by decide) (by decide) (by decide) (by decide) h).mono fun _ _ ⟨a, b, c⟩ => ⟨a, b.mono (by omega), c⟩

theorem chain_at {p N0 : Nat} {o : St} {w w0 : World} (m : MV) (hr : m.Reads w0) (h : WrAt p o N0 w) (hl : N0 + 300000 ≤ 100000000) (hb0 : Below w0.heap.size w0 w) (hp : w0.heap.size ≤ p) :
    Calls Tryz.prog 22 #[rdP p, m.val] w fun x w' => x = .returned (.tuple #[]) ∧ WrAt p (stepB m o) (N0 + 200000) w' ∧ Wrote p w w' := by
  cases m with
  | beat_ n1 n2 n3 => exact (chain_skip 57 _ (by decide) (by decide) (by decide) (by decide) (by decide) h).mono fun _ _ ⟨a, b, c⟩ => ⟨a, b.mono (by omega), c⟩
  | join_ n1 n2 => exact (chain_skip 59 _ (by decide) (by decide) (by decide) (by decide) (by decide) h).mono fun _ _ ⟨a, b, c⟩ => ⟨a, b.mono (by omega), c⟩
  | lease_ n1 n2 => exact (chain_skip 61 _ (by decide) (by decide) (by decide) (by decide) (by decide) h).mono fun _ _ ⟨a, b, c⟩ => ⟨a, b.mono (by omega), c⟩
  | view_ n1 l1 v1 l2 v2 l3 v3 => exact (chain_skip 63 _ (by decide) (by decide) (by decide) (by decide) (by decide) h).mono fun _ _ ⟨a, b, c⟩ => ⟨a, b.mono (by omega), c⟩
  | where_ n1 => exact (chain_skip 65 _ (by decide) (by decide) (by decide) (by decide) (by decide) h).mono fun _ _ ⟨a, b, c⟩ => ⟨a, b.mono (by omega), c⟩
  | have_ n1 n2 n3 l1 v1 => exact chain_have n1 n2 n3 l1 v1 h hl hb0 hp hr
  | logs_ n1 n2 n3 n4 n5 n6 l1 v1 => exact chain_logs n1 n2 n3 n4 n5 n6 l1 v1 h hl hb0 hp hr.1 hr.2
  | ack_ n1 n2 n3 => exact chain_ack n1 n2 n3 h hl
  | ask_ n1 n2 n3 n4 => exact chain_ask n1 n2 n3 n4 h hl
  | told_ n1 n2 n3 n4 => exact chain_told n1 n2 n3 n4 h hl
  | append_ n1 bt v1 => exact (chain_skip 75 _ (by decide) (by decide) (by decide) (by decide) (by decide) h).mono fun _ _ ⟨a, b, c⟩ => ⟨a, b.mono (by omega), c⟩
  | read_ n1 n2 s => exact (chain_skip 77 _ (by decide) (by decide) (by decide) (by decide) (by decide) h).mono fun _ _ ⟨a, b, c⟩ => ⟨a, b.mono (by omega), c⟩
  | reply_ n1 n2 n3 n4 n5 n6 => exact (chain_skip 81 _ (by decide) (by decide) (by decide) (by decide) (by decide) h).mono fun _ _ ⟨a, b, c⟩ => ⟨a, b.mono (by omega), c⟩
  | result_ n1 n2 n3 l1 v1 => exact (chain_skip 83 _ (by decide) (by decide) (by decide) (by decide) (by decide) h).mono fun _ _ ⟨a, b, c⟩ => ⟨a, b.mono (by omega), c⟩

theorem client_at {p N0 : Nat} {o : St} {w w0 : World} (m : MV) (hr : m.Reads w0) (h : WrAt p o N0 w) (hl : N0 + 300000 ≤ 100000000) (hb0 : Below w0.heap.size w0 w) (hp : w0.heap.size ≤ p) :
    Calls Tryz.prog 23 #[rdP p, m.val] w fun x w' => x = .returned (.tuple #[]) ∧ WrAt p (stepC m o) (N0 + 200000) w' ∧ Wrote p w w' := by
  cases m with
  | beat_ n1 n2 n3 => exact (client_skip 57 _ (by decide) (by decide) (by decide) (by decide) h).mono fun _ _ ⟨a, b, c⟩ => ⟨a, b.mono (by omega), c⟩
  | join_ n1 n2 => exact (client_skip 59 _ (by decide) (by decide) (by decide) (by decide) h).mono fun _ _ ⟨a, b, c⟩ => ⟨a, b.mono (by omega), c⟩
  | lease_ n1 n2 => exact (client_skip 61 _ (by decide) (by decide) (by decide) (by decide) h).mono fun _ _ ⟨a, b, c⟩ => ⟨a, b.mono (by omega), c⟩
  | view_ n1 l1 v1 l2 v2 l3 v3 => exact (client_skip 63 _ (by decide) (by decide) (by decide) (by decide) h).mono fun _ _ ⟨a, b, c⟩ => ⟨a, b.mono (by omega), c⟩
  | where_ n1 => exact (client_skip 65 _ (by decide) (by decide) (by decide) (by decide) h).mono fun _ _ ⟨a, b, c⟩ => ⟨a, b.mono (by omega), c⟩
  | have_ n1 n2 n3 l1 v1 => exact (client_skip 67 _ (by decide) (by decide) (by decide) (by decide) h).mono fun _ _ ⟨a, b, c⟩ => ⟨a, b.mono (by omega), c⟩
  | logs_ n1 n2 n3 n4 n5 n6 l1 v1 => exact (client_skip 69 _ (by decide) (by decide) (by decide) (by decide) h).mono fun _ _ ⟨a, b, c⟩ => ⟨a, b.mono (by omega), c⟩
  | ack_ n1 n2 n3 => exact (client_skip 51 _ (by decide) (by decide) (by decide) (by decide) h).mono fun _ _ ⟨a, b, c⟩ => ⟨a, b.mono (by omega), c⟩
  | ask_ n1 n2 n3 n4 => exact (client_skip 71 _ (by decide) (by decide) (by decide) (by decide) h).mono fun _ _ ⟨a, b, c⟩ => ⟨a, b.mono (by omega), c⟩
  | told_ n1 n2 n3 n4 => exact (client_skip 73 _ (by decide) (by decide) (by decide) (by decide) h).mono fun _ _ ⟨a, b, c⟩ => ⟨a, b.mono (by omega), c⟩
  | append_ n1 bt v1 => exact client_append n1 bt v1 h hl hb0 hp hr.1 hr.2
  | read_ n1 n2 s => exact client_read n1 n2 s h hl hr
  | reply_ n1 n2 n3 n4 n5 n6 => exact client_reply n1 n2 n3 n4 n5 n6 h hl
  | result_ n1 n2 n3 l1 v1 => exact client_result n1 n2 n3 l1 v1 h hl hb0 hp hr.1 hr.2

set_option maxHeartbeats 1000000 in
set_option maxRecDepth 100000 in
theorem Put_gen (V : Value) (w : World) (sA sB sC : St → St) (s : List UInt8)
    (hA : ∀ p N0 o w', WrAt p o N0 w' → N0 + 300000 ≤ 100000000 → Below w.heap.size w w' → w.heap.size ≤ p → Calls Tryz.prog 21 #[rdP p, V] w' fun x w'' => x = .returned (.tuple #[]) ∧ WrAt p (sA o) (N0 + 200000) w'' ∧ Wrote p w' w'')
    (hB : ∀ p N0 o w', WrAt p o N0 w' → N0 + 300000 ≤ 100000000 → Below w.heap.size w w' → w.heap.size ≤ p → Calls Tryz.prog 22 #[rdP p, V] w' fun x w'' => x = .returned (.tuple #[]) ∧ WrAt p (sB o) (N0 + 200000) w'' ∧ Wrote p w' w'')
    (hC : ∀ p N0 o w', WrAt p o N0 w' → N0 + 300000 ≤ 100000000 → Below w.heap.size w w' → w.heap.size ≤ p → Calls Tryz.prog 23 #[rdP p, V] w' fun x w'' => x = .returned (.tuple #[]) ∧ WrAt p (sC o) (N0 + 200000) w'' ∧ Wrote p w' w'')
    (H : Hid ((sC (sB (sA (some [])))).getD [] = s)) :
    Calls Tryz.prog 10 #[V] w fun x w' => x = .returned (.string (B s)) ∧ Below w.heap.size w w' := by
  have HA := Lib.hid hA
  have HB := Lib.hid hB
  have HC := Lib.hid hC
  have hb0 : Below w.heap.size w (w.alloc (.cells #[.slice none 0 0, .bool false] 94)) := (Below.refl _ w).alloc (Nat.le_refl _) _
  have h0 : WrAt w.heap.size (some []) 0 (w.alloc (.cells #[.slice none 0 0, .bool false] 94)) := ⟨_, [], false, ⟨new_at rfl, World.ownsRow_nil _ _ _ _⟩, Nat.le_refl _, rfl⟩
  have HB0 := Lib.hid hb0
  have H0 := Lib.hid h0
  clear hA hB hC hb0 h0
  go_enter Tryz.func10, Tryz.ntmps10
  go_wp2_with fail
  refine (HA.out w.heap.size 0 (some []) _ H0.out (by omega) HB0.out (Nat.le_refl _)).mono ?_
  rintro x w1 ⟨rfl, h1, h2⟩
  have H1 := Lib.hid h1
  have HB1 := Lib.hid (Wrote.below HB0.out (Nat.le_refl _) h2)
  clear h1 h2
  go_wp2_with fail
  refine (HB.out w.heap.size _ _ _ H1.out (by omega) HB1.out (Nat.le_refl _)).mono ?_
  rintro x w2 ⟨rfl, h1, h2⟩
  have H2 := Lib.hid h1
  have HB2 := Lib.hid (Wrote.below HB1.out (Nat.le_refl _) h2)
  clear h1 h2
  go_wp2_with fail
  refine (HC.out w.heap.size _ _ _ H2.out (by omega) HB2.out (Nat.le_refl _)).mono ?_
  rintro x w3 ⟨rfl, h1, h2⟩
  have HB3 := Lib.hid (Wrote.below HB2.out (Nat.le_refl _) h2)
  obtain ⟨v, bs, wr, hc, hbl, ho⟩ := h1
  have c0 := block_cell hc.blk 0
  have c1 := block_cell hc.blk 1
  simp at c0 c1
  obtain ⟨va, vc, hvv, hvc⟩ := own_slice hc.own
  subst hvv
  have hcv := conv_owned hc.own
  have HO := Lib.hid ho
  clear h2 hc ho
  cases wr
  · have HE := Lib.hid (show bs = s by rw [← H.out, HO.out]; rfl)
    go_wp2
    go_ret
    rw [HE.out]
    exact ⟨rfl, HB3.out⟩
  · have HE := Lib.hid (show s = [] by rw [← H.out, HO.out]; rfl)
    go_wp2
    go_ret
    rw [HE.out]
    exact ⟨rfl, HB3.out⟩
theorem MPut_at (m : MV) (s : List UInt8) (w : World) (hr : m.Reads w) (H : Hid (m.out = s)) :
    Calls Tryz.prog 10 #[m.val] w fun x w' => x = .returned (.string (B s)) ∧ Below w.heap.size w w' :=
  Put_gen m.val w (stepA m) (stepB m) (stepC m) s (fun _ _ _ _ h hl hb hp => master_at m hr h hl hb hp) (fun _ _ _ _ h hl hb hp => chain_at m hr h hl hb hp) (fun _ _ _ _ h hl hb hp => client_at m hr h hl hb hp)
    (Lib.hid (by rw [step_all, ← H.out]; unfold MV.out; cases m.right <;> rfl))
theorem MPut_nil (w : World) : Calls Tryz.prog 10 #[.nilIface] w fun x w' => x = .returned (.string (B [])) ∧ Below w.heap.size w w' :=
  Put_gen .nilIface w id id id [] (fun _ _ _ _ h _ _ _ => (master_nil h).mono fun _ _ ⟨a, b, c⟩ => ⟨a, b.mono (by omega), c⟩) (fun _ _ _ _ h _ _ _ => (chain_nil h).mono fun _ _ ⟨a, b, c⟩ => ⟨a, b.mono (by omega), c⟩) (fun _ _ _ _ h _ _ _ => (client_nil h).mono fun _ _ ⟨a, b, c⟩ => ⟨a, b.mono (by omega), c⟩) (Lib.hid rfl)
theorem MV.bytes_pos (m : MV) : m.bytes ≠ [] := by unfold MV.bytes M.bytesM; simp
theorem MV.out_ne (m : MV) : m.out.isEmpty = !m.right := by
  unfold MV.out
  cases h : m.right
  · rfl
  · have := m.bytes_pos
    cases hb : m.bytes
    · exact absurd hb this
    · rfl
set_option maxHeartbeats 1000000 in
set_option maxRecDepth 100000 in
theorem Right_gen (V : Value) (s : List UInt8) (r : Bool) (w : World) (h : Calls Tryz.prog 10 #[V] w fun x w' => x = .returned (.string (B s)) ∧ Below w.heap.size w w') (hs : s.isEmpty = !r) :
    Calls Tryz.prog 8 #[V] w fun x w' => x = .returned (.bool r) ∧ Below w.heap.size w w' := by
  have HH := Lib.hid h
  clear h
  go_enter Tryz.func8, Tryz.ntmps8
  go_wp2_with fail
  refine HH.out.mono ?_
  rintro x w1 ⟨rfl, hb⟩
  cases r
  · have hs2 : s.isEmpty = true := by simpa using hs
    clear hs
    go_wp2
    go_ret
    exact ⟨rfl, hb⟩
  · have hs2 : s.isEmpty = false := by simpa using hs
    clear hs
    go_wp2
    go_ret
    exact ⟨rfl, hb⟩
theorem MRight_at (m : MV) (r : Bool) (w : World) (hr : m.Reads w) (H : Hid (m.right = r)) :
    Calls Tryz.prog 8 #[m.val] w fun x w' => x = .returned (.bool r) ∧ Below w.heap.size w w' :=
  Right_gen m.val m.out r w (MPut_at m _ w hr (Lib.hid rfl)) (by rw [MV.out_ne, H.out])
theorem MRight_nil (w : World) : Calls Tryz.prog 8 #[.nilIface] w fun x w' => x = .returned (.bool false) ∧ Below w.heap.size w w' :=
  Right_gen .nilIface [] false w (MPut_nil w) rfl

set_option maxHeartbeats 1000000 in
set_option maxRecDepth 100000 in
theorem epochOf_beat (n1 n2 n3 : Int) (w : World) :
    Calls Tryz.prog 29 #[.iface 57 (.agg #[.int .i64 n1, .int .i64 n2, .int .i64 n3])] w fun x w' => x = .returned (.int .i64 n2) ∧ Below w.heap.size w w' := by
  have as0 := fun v W => Tryz.yes_beat v W
  have as1 := fun v W => Tryz.no_lease 57 v W (by decide)
  have as2 := fun v W => Tryz.no_view 57 v W (by decide)
  have as3 := fun v W => Tryz.no_have 57 v W (by decide)
  have as4 := fun v W => Tryz.no_logs 57 v W (by decide)
  have as5 := fun v W => Tryz.no_ack 57 v W (by decide)
  have as6 := fun v W => Tryz.no_ask 57 v W (by decide)
  have as7 := fun v W => Tryz.no_told 57 v W (by decide)
  go_enter Tryz.func29, Tryz.ntmps29
  go_wp2
  go_ret
  exact ⟨rfl, by go_grown⟩

set_option maxHeartbeats 1000000 in
set_option maxRecDepth 100000 in
theorem epochOf_join (n1 n2 : Int) (w : World) :
    Calls Tryz.prog 29 #[.iface 59 (.agg #[.int .i64 n1, .int .i64 n2])] w fun x w' => x = .returned (.int .i64 0) ∧ Below w.heap.size w w' := by
  have as0 := fun v W => Tryz.no_beat 59 v W (by decide)
  have as1 := fun v W => Tryz.no_lease 59 v W (by decide)
  have as2 := fun v W => Tryz.no_view 59 v W (by decide)
  have as3 := fun v W => Tryz.no_have 59 v W (by decide)
  have as4 := fun v W => Tryz.no_logs 59 v W (by decide)
  have as5 := fun v W => Tryz.no_ack 59 v W (by decide)
  have as6 := fun v W => Tryz.no_ask 59 v W (by decide)
  have as7 := fun v W => Tryz.no_told 59 v W (by decide)
  go_enter Tryz.func29, Tryz.ntmps29
  go_wp2
  go_ret
  exact ⟨rfl, by go_grown⟩

set_option maxHeartbeats 1000000 in
set_option maxRecDepth 100000 in
theorem epochOf_lease (n1 n2 : Int) (w : World) :
    Calls Tryz.prog 29 #[.iface 61 (.agg #[.int .i64 n1, .int .i64 n2])] w fun x w' => x = .returned (.int .i64 n1) ∧ Below w.heap.size w w' := by
  have as0 := fun v W => Tryz.no_beat 61 v W (by decide)
  have as1 := fun v W => Tryz.yes_lease v W
  have as2 := fun v W => Tryz.no_view 61 v W (by decide)
  have as3 := fun v W => Tryz.no_have 61 v W (by decide)
  have as4 := fun v W => Tryz.no_logs 61 v W (by decide)
  have as5 := fun v W => Tryz.no_ack 61 v W (by decide)
  have as6 := fun v W => Tryz.no_ask 61 v W (by decide)
  have as7 := fun v W => Tryz.no_told 61 v W (by decide)
  go_enter Tryz.func29, Tryz.ntmps29
  go_wp2
  go_ret
  exact ⟨rfl, by go_grown⟩

set_option maxHeartbeats 1000000 in
set_option maxRecDepth 100000 in
theorem epochOf_view (n1 : Int) (v1 : Value) (v2 : Value) (v3 : Value) (w : World) (hf1 : ∃ a n c, v1 = .slice a n c) (hf2 : ∃ a n c, v2 = .slice a n c) (hf3 : ∃ a n c, v3 = .slice a n c) :
    Calls Tryz.prog 29 #[.iface 63 (.agg #[.int .i64 n1, v1, v2, v3])] w fun x w' => x = .returned (.int .i64 n1) ∧ Below w.heap.size w w' := by
  obtain ⟨a1, n10, c1, rfl⟩ := hf1
  obtain ⟨a2, n20, c2, rfl⟩ := hf2
  obtain ⟨a3, n30, c3, rfl⟩ := hf3
  have as0 := fun v W => Tryz.no_beat 63 v W (by decide)
  have as1 := fun v W => Tryz.no_lease 63 v W (by decide)
  have as2 := fun v W => Tryz.yes_view v W
  have as3 := fun v W => Tryz.no_have 63 v W (by decide)
  have as4 := fun v W => Tryz.no_logs 63 v W (by decide)
  have as5 := fun v W => Tryz.no_ack 63 v W (by decide)
  have as6 := fun v W => Tryz.no_ask 63 v W (by decide)
  have as7 := fun v W => Tryz.no_told 63 v W (by decide)
  go_enter Tryz.func29, Tryz.ntmps29
  go_wp2
  go_ret
  exact ⟨rfl, by go_grown⟩

set_option maxHeartbeats 1000000 in
set_option maxRecDepth 100000 in
theorem epochOf_where (n1 : Int) (w : World) :
    Calls Tryz.prog 29 #[.iface 65 (.agg #[.int .i64 n1])] w fun x w' => x = .returned (.int .i64 0) ∧ Below w.heap.size w w' := by
  have as0 := fun v W => Tryz.no_beat 65 v W (by decide)
  have as1 := fun v W => Tryz.no_lease 65 v W (by decide)
  have as2 := fun v W => Tryz.no_view 65 v W (by decide)
  have as3 := fun v W => Tryz.no_have 65 v W (by decide)
  have as4 := fun v W => Tryz.no_logs 65 v W (by decide)
  have as5 := fun v W => Tryz.no_ack 65 v W (by decide)
  have as6 := fun v W => Tryz.no_ask 65 v W (by decide)
  have as7 := fun v W => Tryz.no_told 65 v W (by decide)
  go_enter Tryz.func29, Tryz.ntmps29
  go_wp2
  go_ret
  exact ⟨rfl, by go_grown⟩

set_option maxHeartbeats 1000000 in
set_option maxRecDepth 100000 in
theorem epochOf_have (n1 n2 n3 : Int) (v1 : Value) (w : World) (hf1 : ∃ a n c, v1 = .slice a n c) :
    Calls Tryz.prog 29 #[.iface 67 (.agg #[.int .i64 n1, .int .i64 n2, .int .i64 n3, v1])] w fun x w' => x = .returned (.int .i64 n1) ∧ Below w.heap.size w w' := by
  obtain ⟨a1, n10, c1, rfl⟩ := hf1
  have as0 := fun v W => Tryz.no_beat 67 v W (by decide)
  have as1 := fun v W => Tryz.no_lease 67 v W (by decide)
  have as2 := fun v W => Tryz.no_view 67 v W (by decide)
  have as3 := fun v W => Tryz.yes_have v W
  have as4 := fun v W => Tryz.no_logs 67 v W (by decide)
  have as5 := fun v W => Tryz.no_ack 67 v W (by decide)
  have as6 := fun v W => Tryz.no_ask 67 v W (by decide)
  have as7 := fun v W => Tryz.no_told 67 v W (by decide)
  go_enter Tryz.func29, Tryz.ntmps29
  go_wp2
  go_ret
  exact ⟨rfl, by go_grown⟩

set_option maxHeartbeats 1000000 in
set_option maxRecDepth 100000 in
theorem epochOf_logs (n1 n2 n3 n4 n5 n6 : Int) (v1 : Value) (w : World) (hf1 : ∃ a n c, v1 = .slice a n c) :
    Calls Tryz.prog 29 #[.iface 69 (.agg #[.int .i64 n1, .int .i64 n2, .int .i64 n3, .int .i64 n4, .int .i64 n5, .int .i64 n6, v1])] w fun x w' => x = .returned (.int .i64 n1) ∧ Below w.heap.size w w' := by
  obtain ⟨a1, n10, c1, rfl⟩ := hf1
  have as0 := fun v W => Tryz.no_beat 69 v W (by decide)
  have as1 := fun v W => Tryz.no_lease 69 v W (by decide)
  have as2 := fun v W => Tryz.no_view 69 v W (by decide)
  have as3 := fun v W => Tryz.no_have 69 v W (by decide)
  have as4 := fun v W => Tryz.yes_logs v W
  have as5 := fun v W => Tryz.no_ack 69 v W (by decide)
  have as6 := fun v W => Tryz.no_ask 69 v W (by decide)
  have as7 := fun v W => Tryz.no_told 69 v W (by decide)
  go_enter Tryz.func29, Tryz.ntmps29
  go_wp2
  go_ret
  exact ⟨rfl, by go_grown⟩

set_option maxHeartbeats 1000000 in
set_option maxRecDepth 100000 in
theorem epochOf_ack (n1 n2 n3 : Int) (w : World) :
    Calls Tryz.prog 29 #[.iface 51 (.agg #[.int .i64 n1, .int .i64 n2, .int .i64 n3])] w fun x w' => x = .returned (.int .i64 n1) ∧ Below w.heap.size w w' := by
  have as0 := fun v W => Tryz.no_beat 51 v W (by decide)
  have as1 := fun v W => Tryz.no_lease 51 v W (by decide)
  have as2 := fun v W => Tryz.no_view 51 v W (by decide)
  have as3 := fun v W => Tryz.no_have 51 v W (by decide)
  have as4 := fun v W => Tryz.no_logs 51 v W (by decide)
  have as5 := fun v W => Tryz.yes_ack v W
  have as6 := fun v W => Tryz.no_ask 51 v W (by decide)
  have as7 := fun v W => Tryz.no_told 51 v W (by decide)
  go_enter Tryz.func29, Tryz.ntmps29
  go_wp2
  go_ret
  exact ⟨rfl, by go_grown⟩

set_option maxHeartbeats 1000000 in
set_option maxRecDepth 100000 in
theorem epochOf_ask (n1 n2 n3 n4 : Int) (w : World) :
    Calls Tryz.prog 29 #[.iface 71 (.agg #[.int .i64 n1, .int .i64 n2, .int .i64 n3, .int .i64 n4])] w fun x w' => x = .returned (.int .i64 n1) ∧ Below w.heap.size w w' := by
  have as0 := fun v W => Tryz.no_beat 71 v W (by decide)
  have as1 := fun v W => Tryz.no_lease 71 v W (by decide)
  have as2 := fun v W => Tryz.no_view 71 v W (by decide)
  have as3 := fun v W => Tryz.no_have 71 v W (by decide)
  have as4 := fun v W => Tryz.no_logs 71 v W (by decide)
  have as5 := fun v W => Tryz.no_ack 71 v W (by decide)
  have as6 := fun v W => Tryz.yes_ask v W
  have as7 := fun v W => Tryz.no_told 71 v W (by decide)
  go_enter Tryz.func29, Tryz.ntmps29
  go_wp2
  go_ret
  exact ⟨rfl, by go_grown⟩

set_option maxHeartbeats 1000000 in
set_option maxRecDepth 100000 in
theorem epochOf_told (n1 n2 n3 n4 : Int) (w : World) :
    Calls Tryz.prog 29 #[.iface 73 (.agg #[.int .i64 n1, .int .i64 n2, .int .i64 n3, .int .i64 n4])] w fun x w' => x = .returned (.int .i64 n1) ∧ Below w.heap.size w w' := by
  have as0 := fun v W => Tryz.no_beat 73 v W (by decide)
  have as1 := fun v W => Tryz.no_lease 73 v W (by decide)
  have as2 := fun v W => Tryz.no_view 73 v W (by decide)
  have as3 := fun v W => Tryz.no_have 73 v W (by decide)
  have as4 := fun v W => Tryz.no_logs 73 v W (by decide)
  have as5 := fun v W => Tryz.no_ack 73 v W (by decide)
  have as6 := fun v W => Tryz.no_ask 73 v W (by decide)
  have as7 := fun v W => Tryz.yes_told v W
  go_enter Tryz.func29, Tryz.ntmps29
  go_wp2
  go_ret
  exact ⟨rfl, by go_grown⟩

set_option maxHeartbeats 1000000 in
set_option maxRecDepth 100000 in
theorem epochOf_append (n1 : Int) (bt : E.Bat) (v1 : Value) (w : World) (hf1 : ∃ a n c, v1 = .slice a n c) :
    Calls Tryz.prog 29 #[.iface 75 (.agg #[.int .i64 n1, .string (B bt.stream), .int .i64 bt.expect, .int .i64 bt.session, .int .i64 bt.seq, v1])] w fun x w' => x = .returned (.int .i64 0) ∧ Below w.heap.size w w' := by
  obtain ⟨a1, n10, c1, rfl⟩ := hf1
  have as0 := fun v W => Tryz.no_beat 75 v W (by decide)
  have as1 := fun v W => Tryz.no_lease 75 v W (by decide)
  have as2 := fun v W => Tryz.no_view 75 v W (by decide)
  have as3 := fun v W => Tryz.no_have 75 v W (by decide)
  have as4 := fun v W => Tryz.no_logs 75 v W (by decide)
  have as5 := fun v W => Tryz.no_ack 75 v W (by decide)
  have as6 := fun v W => Tryz.no_ask 75 v W (by decide)
  have as7 := fun v W => Tryz.no_told 75 v W (by decide)
  go_enter Tryz.func29, Tryz.ntmps29
  go_wp2
  go_ret
  exact ⟨rfl, by go_grown⟩

set_option maxHeartbeats 1000000 in
set_option maxRecDepth 100000 in
theorem epochOf_read (n1 n2 : Int) (s : List UInt8) (w : World) :
    Calls Tryz.prog 29 #[.iface 77 (.agg #[.int .i64 n1, .string (B s), .int .i64 n2])] w fun x w' => x = .returned (.int .i64 0) ∧ Below w.heap.size w w' := by
  have as0 := fun v W => Tryz.no_beat 77 v W (by decide)
  have as1 := fun v W => Tryz.no_lease 77 v W (by decide)
  have as2 := fun v W => Tryz.no_view 77 v W (by decide)
  have as3 := fun v W => Tryz.no_have 77 v W (by decide)
  have as4 := fun v W => Tryz.no_logs 77 v W (by decide)
  have as5 := fun v W => Tryz.no_ack 77 v W (by decide)
  have as6 := fun v W => Tryz.no_ask 77 v W (by decide)
  have as7 := fun v W => Tryz.no_told 77 v W (by decide)
  go_enter Tryz.func29, Tryz.ntmps29
  go_wp2
  go_ret
  exact ⟨rfl, by go_grown⟩

set_option maxHeartbeats 1000000 in
set_option maxRecDepth 100000 in
theorem epochOf_reply (n1 n2 n3 n4 n5 n6 : Int) (w : World) :
    Calls Tryz.prog 29 #[.iface 81 (.agg #[.int .i64 n1, .int .i64 n2, .int .i64 n3, .int .i64 n4, .int .i64 n5, .int .i64 n6])] w fun x w' => x = .returned (.int .i64 0) ∧ Below w.heap.size w w' := by
  have as0 := fun v W => Tryz.no_beat 81 v W (by decide)
  have as1 := fun v W => Tryz.no_lease 81 v W (by decide)
  have as2 := fun v W => Tryz.no_view 81 v W (by decide)
  have as3 := fun v W => Tryz.no_have 81 v W (by decide)
  have as4 := fun v W => Tryz.no_logs 81 v W (by decide)
  have as5 := fun v W => Tryz.no_ack 81 v W (by decide)
  have as6 := fun v W => Tryz.no_ask 81 v W (by decide)
  have as7 := fun v W => Tryz.no_told 81 v W (by decide)
  go_enter Tryz.func29, Tryz.ntmps29
  go_wp2
  go_ret
  exact ⟨rfl, by go_grown⟩

set_option maxHeartbeats 1000000 in
set_option maxRecDepth 100000 in
theorem epochOf_result (n1 n2 n3 : Int) (v1 : Value) (w : World) (hf1 : ∃ a n c, v1 = .slice a n c) :
    Calls Tryz.prog 29 #[.iface 83 (.agg #[.int .i64 n1, .int .i64 n2, .int .i64 n3, v1])] w fun x w' => x = .returned (.int .i64 0) ∧ Below w.heap.size w w' := by
  obtain ⟨a1, n10, c1, rfl⟩ := hf1
  have as0 := fun v W => Tryz.no_beat 83 v W (by decide)
  have as1 := fun v W => Tryz.no_lease 83 v W (by decide)
  have as2 := fun v W => Tryz.no_view 83 v W (by decide)
  have as3 := fun v W => Tryz.no_have 83 v W (by decide)
  have as4 := fun v W => Tryz.no_logs 83 v W (by decide)
  have as5 := fun v W => Tryz.no_ack 83 v W (by decide)
  have as6 := fun v W => Tryz.no_ask 83 v W (by decide)
  have as7 := fun v W => Tryz.no_told 83 v W (by decide)
  go_enter Tryz.func29, Tryz.ntmps29
  go_wp2
  go_ret
  exact ⟨rfl, by go_grown⟩
theorem formI {w : World} {v : Value} {l : List Int} (h : ReadsI w v l) : ∃ a n c, v = .slice a n c := by obtain ⟨a, c, rfl, _⟩ := h; exact ⟨a, _, c, rfl⟩
theorem formM {w : World} {v : Value} {l : List R.Mk} (h : ReadsM w v l) : ∃ a n c, v = .slice a n c := by obtain ⟨a, c, rfl, _⟩ := h; exact ⟨a, _, c, rfl⟩
theorem formR {w : World} {v : Value} {l : List EV} (h : ReadsR w v l) : ∃ a n c, v = .slice a n c := by obtain ⟨a, c, rfl, _⟩ := h; exact ⟨a, _, c, rfl⟩
theorem epochOf_at (m : MV) (w w0 : World) (hr : m.Reads w0) : Calls Tryz.prog 29 #[m.val] w fun x w' => x = .returned (.int .i64 m.epoch) ∧ Below w.heap.size w w' := by
  cases m with
  | beat_ n1 n2 n3 => exact epochOf_beat n1 n2 n3 w
  | join_ n1 n2 => exact epochOf_join n1 n2 w
  | lease_ n1 n2 => exact epochOf_lease n1 n2 w
  | view_ n1 l1 v1 l2 v2 l3 v3 => exact epochOf_view n1 v1 v2 v3 w (formI hr.1) (formI hr.2.1) (formI hr.2.2)
  | where_ n1 => exact epochOf_where n1 w
  | have_ n1 n2 n3 l1 v1 => exact epochOf_have n1 n2 n3 v1 w (formM hr)
  | logs_ n1 n2 n3 n4 n5 n6 l1 v1 => exact epochOf_logs n1 n2 n3 n4 n5 n6 v1 w (formR hr.1)
  | ack_ n1 n2 n3 => exact epochOf_ack n1 n2 n3 w
  | ask_ n1 n2 n3 n4 => exact epochOf_ask n1 n2 n3 n4 w
  | told_ n1 n2 n3 n4 => exact epochOf_told n1 n2 n3 n4 w
  | append_ n1 bt v1 => exact epochOf_append n1 bt v1 w (readsE_form hr.1)
  | read_ n1 n2 s => exact epochOf_read n1 n2 s w
  | reply_ n1 n2 n3 n4 n5 n6 => exact epochOf_reply n1 n2 n3 n4 n5 n6 w
  | result_ n1 n2 n3 l1 v1 => exact epochOf_result n1 n2 n3 v1 w (readsE_form hr.1)
set_option maxHeartbeats 1000000 in
set_option maxRecDepth 100000 in
theorem MEpoch_at (m : MV) (z : Int) (w : World) (hr : m.Reads w) (H : Hid ((if m.right = true then m.epoch else 0) = z)) :
    Calls Tryz.prog 12 #[m.val] w fun x w' => x = .returned (.int .i64 z) ∧ Below w.heap.size w w' := by
  obtain ⟨r, HR⟩ : ∃ r, Hid (m.right = r) := ⟨_, Lib.hid rfl⟩
  rw [HR.out] at H
  have HV := Lib.hid hr
  have HC := Lib.hid (MRight_at m r w hr HR)
  obtain ⟨V, HVV⟩ : ∃ V, Hid (m.val = V) := ⟨_, Lib.hid rfl⟩
  have HEP : Hid (∀ w', Calls Tryz.prog 29 #[V] w' fun x w'' => x = .returned (.int .i64 m.epoch) ∧ Below w'.heap.size w' w'') := Lib.hid fun w' => by rw [← HVV.out]; exact epochOf_at m w' w HV.out
  rw [HVV.out] at HC ⊢
  clear hr HVV
  go_enter Tryz.func12, Tryz.ntmps12
  go_wp2_with fail
  refine HC.out.mono ?_
  rintro x w1 ⟨rfl, hb⟩
  cases r
  · have HE := Lib.hid (show z = 0 by rw [← H.out]; rfl)
    go_wp2
    go_ret
    rw [HE.out]
    exact ⟨rfl, hb⟩
  · have HE := Lib.hid (show m.epoch = z by rw [← H.out]; rfl)
    go_wp2_with fail
    refine (HEP.out _).mono ?_
    rintro x w2 ⟨rfl, hb2⟩
    have hb3 := hb.trans (hb2.mono hb.size)
    clear hb hb2
    rw [HE.out]
    go_wp2
    go_ret
    exact ⟨rfl, hb3⟩
set_option maxHeartbeats 1000000 in
set_option maxRecDepth 100000 in
theorem MEpoch_nil (w : World) : Calls Tryz.prog 12 #[.nilIface] w fun x w' => x = .returned (.int .i64 0) ∧ Below w.heap.size w w' := by
  go_enter Tryz.func12, Tryz.ntmps12
  go_wp2_with fail
  refine (MRight_nil w).mono ?_
  rintro x w1 ⟨rfl, hb⟩
  go_wp2
  go_ret
  exact ⟨rfl, hb⟩
end Go.Proofs.YtljcgpdjhjkciaaGreat
