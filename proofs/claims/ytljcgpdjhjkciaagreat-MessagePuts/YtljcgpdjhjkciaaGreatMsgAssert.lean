/-
  Type assertions on messages: what they say of each type.
-/
import Derived.Test.YtljcgpdjhjkciaaGreatMsgWriter3
namespace Go.Proofs.YtljcgpdjhjkciaaGreat
open Go.RowKit

theorem Tryz.zero_beat (W : World) : (do pure (Value.tuple #[← zeroValue 57, .bool false]) : Sem Value).run Tryz.prog W = .ok (.tuple #[.agg #[.int .i64 0, .int .i64 0, .int .i64 0], .bool false]) W := by kernel_rfl
theorem Tryz.yes_beat (v : Value) (W : World) : (Instr.typeAssert (.iface 57 v) 34 57 true).run Tryz.prog W = .ok (.tuple #[v, .bool true]) W := by kernel_rfl
theorem Tryz.no_beat (u : TypeId) (v : Value) (W : World) (h : u ≠ 57) : (Instr.typeAssert (.iface u v) 34 57 true).run Tryz.prog W = .ok (.tuple #[.agg #[.int .i64 0, .int .i64 0, .int .i64 0], .bool false]) W := by
  have e : (Instr.typeAssert (.iface u v) 34 57 true).run Tryz.prog W = (if u = 57 then (pure (Value.tuple #[v, .bool true]) : Sem Value) else (do pure (Value.tuple #[← zeroValue 57, .bool false]))).run Tryz.prog W := by kernel_rfl
  rw [e, if_neg h]
  exact Tryz.zero_beat W
theorem Tryz.nil_beat (W : World) : (Instr.typeAssert .nilIface 34 57 true).run Tryz.prog W = .ok (.tuple #[.agg #[.int .i64 0, .int .i64 0, .int .i64 0], .bool false]) W := by kernel_rfl
theorem Tryz.zero_join (W : World) : (do pure (Value.tuple #[← zeroValue 59, .bool false]) : Sem Value).run Tryz.prog W = .ok (.tuple #[.agg #[.int .i64 0, .int .i64 0], .bool false]) W := by kernel_rfl
theorem Tryz.yes_join (v : Value) (W : World) : (Instr.typeAssert (.iface 59 v) 34 59 true).run Tryz.prog W = .ok (.tuple #[v, .bool true]) W := by kernel_rfl
theorem Tryz.no_join (u : TypeId) (v : Value) (W : World) (h : u ≠ 59) : (Instr.typeAssert (.iface u v) 34 59 true).run Tryz.prog W = .ok (.tuple #[.agg #[.int .i64 0, .int .i64 0], .bool false]) W := by
  have e : (Instr.typeAssert (.iface u v) 34 59 true).run Tryz.prog W = (if u = 59 then (pure (Value.tuple #[v, .bool true]) : Sem Value) else (do pure (Value.tuple #[← zeroValue 59, .bool false]))).run Tryz.prog W := by kernel_rfl
  rw [e, if_neg h]
  exact Tryz.zero_join W
theorem Tryz.nil_join (W : World) : (Instr.typeAssert .nilIface 34 59 true).run Tryz.prog W = .ok (.tuple #[.agg #[.int .i64 0, .int .i64 0], .bool false]) W := by kernel_rfl
theorem Tryz.zero_lease (W : World) : (do pure (Value.tuple #[← zeroValue 61, .bool false]) : Sem Value).run Tryz.prog W = .ok (.tuple #[.agg #[.int .i64 0, .int .i64 0], .bool false]) W := by kernel_rfl
theorem Tryz.yes_lease (v : Value) (W : World) : (Instr.typeAssert (.iface 61 v) 34 61 true).run Tryz.prog W = .ok (.tuple #[v, .bool true]) W := by kernel_rfl
theorem Tryz.no_lease (u : TypeId) (v : Value) (W : World) (h : u ≠ 61) : (Instr.typeAssert (.iface u v) 34 61 true).run Tryz.prog W = .ok (.tuple #[.agg #[.int .i64 0, .int .i64 0], .bool false]) W := by
  have e : (Instr.typeAssert (.iface u v) 34 61 true).run Tryz.prog W = (if u = 61 then (pure (Value.tuple #[v, .bool true]) : Sem Value) else (do pure (Value.tuple #[← zeroValue 61, .bool false]))).run Tryz.prog W := by kernel_rfl
  rw [e, if_neg h]
  exact Tryz.zero_lease W
theorem Tryz.nil_lease (W : World) : (Instr.typeAssert .nilIface 34 61 true).run Tryz.prog W = .ok (.tuple #[.agg #[.int .i64 0, .int .i64 0], .bool false]) W := by kernel_rfl
theorem Tryz.zero_view (W : World) : (do pure (Value.tuple #[← zeroValue 63, .bool false]) : Sem Value).run Tryz.prog W = .ok (.tuple #[.agg #[.int .i64 0, .slice none 0 0, .slice none 0 0, .slice none 0 0], .bool false]) W := by kernel_rfl
theorem Tryz.yes_view (v : Value) (W : World) : (Instr.typeAssert (.iface 63 v) 34 63 true).run Tryz.prog W = .ok (.tuple #[v, .bool true]) W := by kernel_rfl
theorem Tryz.no_view (u : TypeId) (v : Value) (W : World) (h : u ≠ 63) : (Instr.typeAssert (.iface u v) 34 63 true).run Tryz.prog W = .ok (.tuple #[.agg #[.int .i64 0, .slice none 0 0, .slice none 0 0, .slice none 0 0], .bool false]) W := by
  have e : (Instr.typeAssert (.iface u v) 34 63 true).run Tryz.prog W = (if u = 63 then (pure (Value.tuple #[v, .bool true]) : Sem Value) else (do pure (Value.tuple #[← zeroValue 63, .bool false]))).run Tryz.prog W := by kernel_rfl
  rw [e, if_neg h]
  exact Tryz.zero_view W
theorem Tryz.nil_view (W : World) : (Instr.typeAssert .nilIface 34 63 true).run Tryz.prog W = .ok (.tuple #[.agg #[.int .i64 0, .slice none 0 0, .slice none 0 0, .slice none 0 0], .bool false]) W := by kernel_rfl
theorem Tryz.zero_where (W : World) : (do pure (Value.tuple #[← zeroValue 65, .bool false]) : Sem Value).run Tryz.prog W = .ok (.tuple #[.agg #[.int .i64 0], .bool false]) W := by kernel_rfl
theorem Tryz.yes_where (v : Value) (W : World) : (Instr.typeAssert (.iface 65 v) 34 65 true).run Tryz.prog W = .ok (.tuple #[v, .bool true]) W := by kernel_rfl
theorem Tryz.no_where (u : TypeId) (v : Value) (W : World) (h : u ≠ 65) : (Instr.typeAssert (.iface u v) 34 65 true).run Tryz.prog W = .ok (.tuple #[.agg #[.int .i64 0], .bool false]) W := by
  have e : (Instr.typeAssert (.iface u v) 34 65 true).run Tryz.prog W = (if u = 65 then (pure (Value.tuple #[v, .bool true]) : Sem Value) else (do pure (Value.tuple #[← zeroValue 65, .bool false]))).run Tryz.prog W := by kernel_rfl
  rw [e, if_neg h]
  exact Tryz.zero_where W
theorem Tryz.nil_where (W : World) : (Instr.typeAssert .nilIface 34 65 true).run Tryz.prog W = .ok (.tuple #[.agg #[.int .i64 0], .bool false]) W := by kernel_rfl
theorem Tryz.zero_have (W : World) : (do pure (Value.tuple #[← zeroValue 67, .bool false]) : Sem Value).run Tryz.prog W = .ok (.tuple #[.agg #[.int .i64 0, .int .i64 0, .int .i64 0, .slice none 0 0], .bool false]) W := by kernel_rfl
theorem Tryz.yes_have (v : Value) (W : World) : (Instr.typeAssert (.iface 67 v) 34 67 true).run Tryz.prog W = .ok (.tuple #[v, .bool true]) W := by kernel_rfl
theorem Tryz.no_have (u : TypeId) (v : Value) (W : World) (h : u ≠ 67) : (Instr.typeAssert (.iface u v) 34 67 true).run Tryz.prog W = .ok (.tuple #[.agg #[.int .i64 0, .int .i64 0, .int .i64 0, .slice none 0 0], .bool false]) W := by
  have e : (Instr.typeAssert (.iface u v) 34 67 true).run Tryz.prog W = (if u = 67 then (pure (Value.tuple #[v, .bool true]) : Sem Value) else (do pure (Value.tuple #[← zeroValue 67, .bool false]))).run Tryz.prog W := by kernel_rfl
  rw [e, if_neg h]
  exact Tryz.zero_have W
theorem Tryz.nil_have (W : World) : (Instr.typeAssert .nilIface 34 67 true).run Tryz.prog W = .ok (.tuple #[.agg #[.int .i64 0, .int .i64 0, .int .i64 0, .slice none 0 0], .bool false]) W := by kernel_rfl
theorem Tryz.zero_logs (W : World) : (do pure (Value.tuple #[← zeroValue 69, .bool false]) : Sem Value).run Tryz.prog W = .ok (.tuple #[.agg #[.int .i64 0, .int .i64 0, .int .i64 0, .int .i64 0, .int .i64 0, .int .i64 0, .slice none 0 0], .bool false]) W := by kernel_rfl
theorem Tryz.yes_logs (v : Value) (W : World) : (Instr.typeAssert (.iface 69 v) 34 69 true).run Tryz.prog W = .ok (.tuple #[v, .bool true]) W := by kernel_rfl
theorem Tryz.no_logs (u : TypeId) (v : Value) (W : World) (h : u ≠ 69) : (Instr.typeAssert (.iface u v) 34 69 true).run Tryz.prog W = .ok (.tuple #[.agg #[.int .i64 0, .int .i64 0, .int .i64 0, .int .i64 0, .int .i64 0, .int .i64 0, .slice none 0 0], .bool false]) W := by
  have e : (Instr.typeAssert (.iface u v) 34 69 true).run Tryz.prog W = (if u = 69 then (pure (Value.tuple #[v, .bool true]) : Sem Value) else (do pure (Value.tuple #[← zeroValue 69, .bool false]))).run Tryz.prog W := by kernel_rfl
  rw [e, if_neg h]
  exact Tryz.zero_logs W
theorem Tryz.nil_logs (W : World) : (Instr.typeAssert .nilIface 34 69 true).run Tryz.prog W = .ok (.tuple #[.agg #[.int .i64 0, .int .i64 0, .int .i64 0, .int .i64 0, .int .i64 0, .int .i64 0, .slice none 0 0], .bool false]) W := by kernel_rfl
theorem Tryz.zero_ack (W : World) : (do pure (Value.tuple #[← zeroValue 51, .bool false]) : Sem Value).run Tryz.prog W = .ok (.tuple #[.agg #[.int .i64 0, .int .i64 0, .int .i64 0], .bool false]) W := by kernel_rfl
theorem Tryz.yes_ack (v : Value) (W : World) : (Instr.typeAssert (.iface 51 v) 34 51 true).run Tryz.prog W = .ok (.tuple #[v, .bool true]) W := by kernel_rfl
theorem Tryz.no_ack (u : TypeId) (v : Value) (W : World) (h : u ≠ 51) : (Instr.typeAssert (.iface u v) 34 51 true).run Tryz.prog W = .ok (.tuple #[.agg #[.int .i64 0, .int .i64 0, .int .i64 0], .bool false]) W := by
  have e : (Instr.typeAssert (.iface u v) 34 51 true).run Tryz.prog W = (if u = 51 then (pure (Value.tuple #[v, .bool true]) : Sem Value) else (do pure (Value.tuple #[← zeroValue 51, .bool false]))).run Tryz.prog W := by kernel_rfl
  rw [e, if_neg h]
  exact Tryz.zero_ack W
theorem Tryz.nil_ack (W : World) : (Instr.typeAssert .nilIface 34 51 true).run Tryz.prog W = .ok (.tuple #[.agg #[.int .i64 0, .int .i64 0, .int .i64 0], .bool false]) W := by kernel_rfl
theorem Tryz.zero_ask (W : World) : (do pure (Value.tuple #[← zeroValue 71, .bool false]) : Sem Value).run Tryz.prog W = .ok (.tuple #[.agg #[.int .i64 0, .int .i64 0, .int .i64 0, .int .i64 0], .bool false]) W := by kernel_rfl
theorem Tryz.yes_ask (v : Value) (W : World) : (Instr.typeAssert (.iface 71 v) 34 71 true).run Tryz.prog W = .ok (.tuple #[v, .bool true]) W := by kernel_rfl
theorem Tryz.no_ask (u : TypeId) (v : Value) (W : World) (h : u ≠ 71) : (Instr.typeAssert (.iface u v) 34 71 true).run Tryz.prog W = .ok (.tuple #[.agg #[.int .i64 0, .int .i64 0, .int .i64 0, .int .i64 0], .bool false]) W := by
  have e : (Instr.typeAssert (.iface u v) 34 71 true).run Tryz.prog W = (if u = 71 then (pure (Value.tuple #[v, .bool true]) : Sem Value) else (do pure (Value.tuple #[← zeroValue 71, .bool false]))).run Tryz.prog W := by kernel_rfl
  rw [e, if_neg h]
  exact Tryz.zero_ask W
theorem Tryz.nil_ask (W : World) : (Instr.typeAssert .nilIface 34 71 true).run Tryz.prog W = .ok (.tuple #[.agg #[.int .i64 0, .int .i64 0, .int .i64 0, .int .i64 0], .bool false]) W := by kernel_rfl
theorem Tryz.zero_told (W : World) : (do pure (Value.tuple #[← zeroValue 73, .bool false]) : Sem Value).run Tryz.prog W = .ok (.tuple #[.agg #[.int .i64 0, .int .i64 0, .int .i64 0, .int .i64 0], .bool false]) W := by kernel_rfl
theorem Tryz.yes_told (v : Value) (W : World) : (Instr.typeAssert (.iface 73 v) 34 73 true).run Tryz.prog W = .ok (.tuple #[v, .bool true]) W := by kernel_rfl
theorem Tryz.no_told (u : TypeId) (v : Value) (W : World) (h : u ≠ 73) : (Instr.typeAssert (.iface u v) 34 73 true).run Tryz.prog W = .ok (.tuple #[.agg #[.int .i64 0, .int .i64 0, .int .i64 0, .int .i64 0], .bool false]) W := by
  have e : (Instr.typeAssert (.iface u v) 34 73 true).run Tryz.prog W = (if u = 73 then (pure (Value.tuple #[v, .bool true]) : Sem Value) else (do pure (Value.tuple #[← zeroValue 73, .bool false]))).run Tryz.prog W := by kernel_rfl
  rw [e, if_neg h]
  exact Tryz.zero_told W
theorem Tryz.nil_told (W : World) : (Instr.typeAssert .nilIface 34 73 true).run Tryz.prog W = .ok (.tuple #[.agg #[.int .i64 0, .int .i64 0, .int .i64 0, .int .i64 0], .bool false]) W := by kernel_rfl
theorem Tryz.zero_append (W : World) : (do pure (Value.tuple #[← zeroValue 75, .bool false]) : Sem Value).run Tryz.prog W = .ok (.tuple #[.agg #[.int .i64 0, .string ⟨#[]⟩, .int .i64 0, .int .i64 0, .int .i64 0, .slice none 0 0], .bool false]) W := by kernel_rfl
theorem Tryz.yes_append (v : Value) (W : World) : (Instr.typeAssert (.iface 75 v) 34 75 true).run Tryz.prog W = .ok (.tuple #[v, .bool true]) W := by kernel_rfl
theorem Tryz.no_append (u : TypeId) (v : Value) (W : World) (h : u ≠ 75) : (Instr.typeAssert (.iface u v) 34 75 true).run Tryz.prog W = .ok (.tuple #[.agg #[.int .i64 0, .string ⟨#[]⟩, .int .i64 0, .int .i64 0, .int .i64 0, .slice none 0 0], .bool false]) W := by
  have e : (Instr.typeAssert (.iface u v) 34 75 true).run Tryz.prog W = (if u = 75 then (pure (Value.tuple #[v, .bool true]) : Sem Value) else (do pure (Value.tuple #[← zeroValue 75, .bool false]))).run Tryz.prog W := by kernel_rfl
  rw [e, if_neg h]
  exact Tryz.zero_append W
theorem Tryz.nil_append (W : World) : (Instr.typeAssert .nilIface 34 75 true).run Tryz.prog W = .ok (.tuple #[.agg #[.int .i64 0, .string ⟨#[]⟩, .int .i64 0, .int .i64 0, .int .i64 0, .slice none 0 0], .bool false]) W := by kernel_rfl
theorem Tryz.zero_read (W : World) : (do pure (Value.tuple #[← zeroValue 77, .bool false]) : Sem Value).run Tryz.prog W = .ok (.tuple #[.agg #[.int .i64 0, .string ⟨#[]⟩, .int .i64 0], .bool false]) W := by kernel_rfl
theorem Tryz.yes_read (v : Value) (W : World) : (Instr.typeAssert (.iface 77 v) 34 77 true).run Tryz.prog W = .ok (.tuple #[v, .bool true]) W := by kernel_rfl
theorem Tryz.no_read (u : TypeId) (v : Value) (W : World) (h : u ≠ 77) : (Instr.typeAssert (.iface u v) 34 77 true).run Tryz.prog W = .ok (.tuple #[.agg #[.int .i64 0, .string ⟨#[]⟩, .int .i64 0], .bool false]) W := by
  have e : (Instr.typeAssert (.iface u v) 34 77 true).run Tryz.prog W = (if u = 77 then (pure (Value.tuple #[v, .bool true]) : Sem Value) else (do pure (Value.tuple #[← zeroValue 77, .bool false]))).run Tryz.prog W := by kernel_rfl
  rw [e, if_neg h]
  exact Tryz.zero_read W
theorem Tryz.nil_read (W : World) : (Instr.typeAssert .nilIface 34 77 true).run Tryz.prog W = .ok (.tuple #[.agg #[.int .i64 0, .string ⟨#[]⟩, .int .i64 0], .bool false]) W := by kernel_rfl
theorem Tryz.zero_reply (W : World) : (do pure (Value.tuple #[← zeroValue 81, .bool false]) : Sem Value).run Tryz.prog W = .ok (.tuple #[.agg #[.int .i64 0, .int .i64 0, .int .i64 0, .int .i64 0, .int .i64 0, .int .i64 0], .bool false]) W := by kernel_rfl
theorem Tryz.yes_reply (v : Value) (W : World) : (Instr.typeAssert (.iface 81 v) 34 81 true).run Tryz.prog W = .ok (.tuple #[v, .bool true]) W := by kernel_rfl
theorem Tryz.no_reply (u : TypeId) (v : Value) (W : World) (h : u ≠ 81) : (Instr.typeAssert (.iface u v) 34 81 true).run Tryz.prog W = .ok (.tuple #[.agg #[.int .i64 0, .int .i64 0, .int .i64 0, .int .i64 0, .int .i64 0, .int .i64 0], .bool false]) W := by
  have e : (Instr.typeAssert (.iface u v) 34 81 true).run Tryz.prog W = (if u = 81 then (pure (Value.tuple #[v, .bool true]) : Sem Value) else (do pure (Value.tuple #[← zeroValue 81, .bool false]))).run Tryz.prog W := by kernel_rfl
  rw [e, if_neg h]
  exact Tryz.zero_reply W
theorem Tryz.nil_reply (W : World) : (Instr.typeAssert .nilIface 34 81 true).run Tryz.prog W = .ok (.tuple #[.agg #[.int .i64 0, .int .i64 0, .int .i64 0, .int .i64 0, .int .i64 0, .int .i64 0], .bool false]) W := by kernel_rfl
theorem Tryz.zero_result (W : World) : (do pure (Value.tuple #[← zeroValue 83, .bool false]) : Sem Value).run Tryz.prog W = .ok (.tuple #[.agg #[.int .i64 0, .int .i64 0, .int .i64 0, .slice none 0 0], .bool false]) W := by kernel_rfl
theorem Tryz.yes_result (v : Value) (W : World) : (Instr.typeAssert (.iface 83 v) 34 83 true).run Tryz.prog W = .ok (.tuple #[v, .bool true]) W := by kernel_rfl
theorem Tryz.no_result (u : TypeId) (v : Value) (W : World) (h : u ≠ 83) : (Instr.typeAssert (.iface u v) 34 83 true).run Tryz.prog W = .ok (.tuple #[.agg #[.int .i64 0, .int .i64 0, .int .i64 0, .slice none 0 0], .bool false]) W := by
  have e : (Instr.typeAssert (.iface u v) 34 83 true).run Tryz.prog W = (if u = 83 then (pure (Value.tuple #[v, .bool true]) : Sem Value) else (do pure (Value.tuple #[← zeroValue 83, .bool false]))).run Tryz.prog W := by kernel_rfl
  rw [e, if_neg h]
  exact Tryz.zero_result W
theorem Tryz.nil_result (W : World) : (Instr.typeAssert .nilIface 34 83 true).run Tryz.prog W = .ok (.tuple #[.agg #[.int .i64 0, .int .i64 0, .int .i64 0, .slice none 0 0], .bool false]) W := by kernel_rfl
theorem not_nil (W : World) (u : TypeId) (v : Value) : (binOp .eql 34 (.iface u v) .nilIface).run Tryz.prog W = .ok (.bool false) W := by kernel_rfl
theorem is_nil (W : World) : (binOp .eql 34 .nilIface .nilIface).run Tryz.prog W = .ok (.bool true) W := by kernel_rfl
end Go.Proofs.YtljcgpdjhjkciaaGreat
