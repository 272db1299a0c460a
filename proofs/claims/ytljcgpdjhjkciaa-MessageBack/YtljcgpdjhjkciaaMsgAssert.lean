/-
  Type assertions on messages: what they say of each type.
-/
import Derived.Test.YtljcgpdjhjkciaaMsgWriter3
namespace Go.Proofs.Ytljcgpdjhjkciaa
open Go.RowKit

theorem Try.zero_beat (W : World) : (do pure (Value.tuple #[← zeroValue 59, .bool false]) : Sem Value).run Try.prog W = .ok (.tuple #[.agg #[.int .i64 0, .int .i64 0, .int .i64 0], .bool false]) W := by kernel_rfl
theorem Try.yes_beat (v : Value) (W : World) : (Instr.typeAssert (.iface 59 v) 34 59 true).run Try.prog W = .ok (.tuple #[v, .bool true]) W := by kernel_rfl
theorem Try.no_beat (u : TypeId) (v : Value) (W : World) (h : u ≠ 59) : (Instr.typeAssert (.iface u v) 34 59 true).run Try.prog W = .ok (.tuple #[.agg #[.int .i64 0, .int .i64 0, .int .i64 0], .bool false]) W := by
  have e : (Instr.typeAssert (.iface u v) 34 59 true).run Try.prog W = (if u = 59 then (pure (Value.tuple #[v, .bool true]) : Sem Value) else (do pure (Value.tuple #[← zeroValue 59, .bool false]))).run Try.prog W := by kernel_rfl
  rw [e, if_neg h]
  exact Try.zero_beat W
theorem Try.nil_beat (W : World) : (Instr.typeAssert .nilIface 34 59 true).run Try.prog W = .ok (.tuple #[.agg #[.int .i64 0, .int .i64 0, .int .i64 0], .bool false]) W := by kernel_rfl
theorem Try.zero_join (W : World) : (do pure (Value.tuple #[← zeroValue 61, .bool false]) : Sem Value).run Try.prog W = .ok (.tuple #[.agg #[.int .i64 0, .int .i64 0], .bool false]) W := by kernel_rfl
theorem Try.yes_join (v : Value) (W : World) : (Instr.typeAssert (.iface 61 v) 34 61 true).run Try.prog W = .ok (.tuple #[v, .bool true]) W := by kernel_rfl
theorem Try.no_join (u : TypeId) (v : Value) (W : World) (h : u ≠ 61) : (Instr.typeAssert (.iface u v) 34 61 true).run Try.prog W = .ok (.tuple #[.agg #[.int .i64 0, .int .i64 0], .bool false]) W := by
  have e : (Instr.typeAssert (.iface u v) 34 61 true).run Try.prog W = (if u = 61 then (pure (Value.tuple #[v, .bool true]) : Sem Value) else (do pure (Value.tuple #[← zeroValue 61, .bool false]))).run Try.prog W := by kernel_rfl
  rw [e, if_neg h]
  exact Try.zero_join W
theorem Try.nil_join (W : World) : (Instr.typeAssert .nilIface 34 61 true).run Try.prog W = .ok (.tuple #[.agg #[.int .i64 0, .int .i64 0], .bool false]) W := by kernel_rfl
theorem Try.zero_lease (W : World) : (do pure (Value.tuple #[← zeroValue 63, .bool false]) : Sem Value).run Try.prog W = .ok (.tuple #[.agg #[.int .i64 0, .int .i64 0], .bool false]) W := by kernel_rfl
theorem Try.yes_lease (v : Value) (W : World) : (Instr.typeAssert (.iface 63 v) 34 63 true).run Try.prog W = .ok (.tuple #[v, .bool true]) W := by kernel_rfl
theorem Try.no_lease (u : TypeId) (v : Value) (W : World) (h : u ≠ 63) : (Instr.typeAssert (.iface u v) 34 63 true).run Try.prog W = .ok (.tuple #[.agg #[.int .i64 0, .int .i64 0], .bool false]) W := by
  have e : (Instr.typeAssert (.iface u v) 34 63 true).run Try.prog W = (if u = 63 then (pure (Value.tuple #[v, .bool true]) : Sem Value) else (do pure (Value.tuple #[← zeroValue 63, .bool false]))).run Try.prog W := by kernel_rfl
  rw [e, if_neg h]
  exact Try.zero_lease W
theorem Try.nil_lease (W : World) : (Instr.typeAssert .nilIface 34 63 true).run Try.prog W = .ok (.tuple #[.agg #[.int .i64 0, .int .i64 0], .bool false]) W := by kernel_rfl
theorem Try.zero_view (W : World) : (do pure (Value.tuple #[← zeroValue 65, .bool false]) : Sem Value).run Try.prog W = .ok (.tuple #[.agg #[.int .i64 0, .slice none 0 0, .slice none 0 0, .slice none 0 0], .bool false]) W := by kernel_rfl
theorem Try.yes_view (v : Value) (W : World) : (Instr.typeAssert (.iface 65 v) 34 65 true).run Try.prog W = .ok (.tuple #[v, .bool true]) W := by kernel_rfl
theorem Try.no_view (u : TypeId) (v : Value) (W : World) (h : u ≠ 65) : (Instr.typeAssert (.iface u v) 34 65 true).run Try.prog W = .ok (.tuple #[.agg #[.int .i64 0, .slice none 0 0, .slice none 0 0, .slice none 0 0], .bool false]) W := by
  have e : (Instr.typeAssert (.iface u v) 34 65 true).run Try.prog W = (if u = 65 then (pure (Value.tuple #[v, .bool true]) : Sem Value) else (do pure (Value.tuple #[← zeroValue 65, .bool false]))).run Try.prog W := by kernel_rfl
  rw [e, if_neg h]
  exact Try.zero_view W
theorem Try.nil_view (W : World) : (Instr.typeAssert .nilIface 34 65 true).run Try.prog W = .ok (.tuple #[.agg #[.int .i64 0, .slice none 0 0, .slice none 0 0, .slice none 0 0], .bool false]) W := by kernel_rfl
theorem Try.zero_where (W : World) : (do pure (Value.tuple #[← zeroValue 67, .bool false]) : Sem Value).run Try.prog W = .ok (.tuple #[.agg #[.int .i64 0], .bool false]) W := by kernel_rfl
theorem Try.yes_where (v : Value) (W : World) : (Instr.typeAssert (.iface 67 v) 34 67 true).run Try.prog W = .ok (.tuple #[v, .bool true]) W := by kernel_rfl
theorem Try.no_where (u : TypeId) (v : Value) (W : World) (h : u ≠ 67) : (Instr.typeAssert (.iface u v) 34 67 true).run Try.prog W = .ok (.tuple #[.agg #[.int .i64 0], .bool false]) W := by
  have e : (Instr.typeAssert (.iface u v) 34 67 true).run Try.prog W = (if u = 67 then (pure (Value.tuple #[v, .bool true]) : Sem Value) else (do pure (Value.tuple #[← zeroValue 67, .bool false]))).run Try.prog W := by kernel_rfl
  rw [e, if_neg h]
  exact Try.zero_where W
theorem Try.nil_where (W : World) : (Instr.typeAssert .nilIface 34 67 true).run Try.prog W = .ok (.tuple #[.agg #[.int .i64 0], .bool false]) W := by kernel_rfl
theorem Try.zero_have (W : World) : (do pure (Value.tuple #[← zeroValue 69, .bool false]) : Sem Value).run Try.prog W = .ok (.tuple #[.agg #[.int .i64 0, .int .i64 0, .int .i64 0, .slice none 0 0], .bool false]) W := by kernel_rfl
theorem Try.yes_have (v : Value) (W : World) : (Instr.typeAssert (.iface 69 v) 34 69 true).run Try.prog W = .ok (.tuple #[v, .bool true]) W := by kernel_rfl
theorem Try.no_have (u : TypeId) (v : Value) (W : World) (h : u ≠ 69) : (Instr.typeAssert (.iface u v) 34 69 true).run Try.prog W = .ok (.tuple #[.agg #[.int .i64 0, .int .i64 0, .int .i64 0, .slice none 0 0], .bool false]) W := by
  have e : (Instr.typeAssert (.iface u v) 34 69 true).run Try.prog W = (if u = 69 then (pure (Value.tuple #[v, .bool true]) : Sem Value) else (do pure (Value.tuple #[← zeroValue 69, .bool false]))).run Try.prog W := by kernel_rfl
  rw [e, if_neg h]
  exact Try.zero_have W
theorem Try.nil_have (W : World) : (Instr.typeAssert .nilIface 34 69 true).run Try.prog W = .ok (.tuple #[.agg #[.int .i64 0, .int .i64 0, .int .i64 0, .slice none 0 0], .bool false]) W := by kernel_rfl
theorem Try.zero_logs (W : World) : (do pure (Value.tuple #[← zeroValue 71, .bool false]) : Sem Value).run Try.prog W = .ok (.tuple #[.agg #[.int .i64 0, .int .i64 0, .int .i64 0, .int .i64 0, .int .i64 0, .int .i64 0, .slice none 0 0], .bool false]) W := by kernel_rfl
theorem Try.yes_logs (v : Value) (W : World) : (Instr.typeAssert (.iface 71 v) 34 71 true).run Try.prog W = .ok (.tuple #[v, .bool true]) W := by kernel_rfl
theorem Try.no_logs (u : TypeId) (v : Value) (W : World) (h : u ≠ 71) : (Instr.typeAssert (.iface u v) 34 71 true).run Try.prog W = .ok (.tuple #[.agg #[.int .i64 0, .int .i64 0, .int .i64 0, .int .i64 0, .int .i64 0, .int .i64 0, .slice none 0 0], .bool false]) W := by
  have e : (Instr.typeAssert (.iface u v) 34 71 true).run Try.prog W = (if u = 71 then (pure (Value.tuple #[v, .bool true]) : Sem Value) else (do pure (Value.tuple #[← zeroValue 71, .bool false]))).run Try.prog W := by kernel_rfl
  rw [e, if_neg h]
  exact Try.zero_logs W
theorem Try.nil_logs (W : World) : (Instr.typeAssert .nilIface 34 71 true).run Try.prog W = .ok (.tuple #[.agg #[.int .i64 0, .int .i64 0, .int .i64 0, .int .i64 0, .int .i64 0, .int .i64 0, .slice none 0 0], .bool false]) W := by kernel_rfl
theorem Try.zero_ack (W : World) : (do pure (Value.tuple #[← zeroValue 53, .bool false]) : Sem Value).run Try.prog W = .ok (.tuple #[.agg #[.int .i64 0, .int .i64 0, .int .i64 0], .bool false]) W := by kernel_rfl
theorem Try.yes_ack (v : Value) (W : World) : (Instr.typeAssert (.iface 53 v) 34 53 true).run Try.prog W = .ok (.tuple #[v, .bool true]) W := by kernel_rfl
theorem Try.no_ack (u : TypeId) (v : Value) (W : World) (h : u ≠ 53) : (Instr.typeAssert (.iface u v) 34 53 true).run Try.prog W = .ok (.tuple #[.agg #[.int .i64 0, .int .i64 0, .int .i64 0], .bool false]) W := by
  have e : (Instr.typeAssert (.iface u v) 34 53 true).run Try.prog W = (if u = 53 then (pure (Value.tuple #[v, .bool true]) : Sem Value) else (do pure (Value.tuple #[← zeroValue 53, .bool false]))).run Try.prog W := by kernel_rfl
  rw [e, if_neg h]
  exact Try.zero_ack W
theorem Try.nil_ack (W : World) : (Instr.typeAssert .nilIface 34 53 true).run Try.prog W = .ok (.tuple #[.agg #[.int .i64 0, .int .i64 0, .int .i64 0], .bool false]) W := by kernel_rfl
theorem Try.zero_ask (W : World) : (do pure (Value.tuple #[← zeroValue 73, .bool false]) : Sem Value).run Try.prog W = .ok (.tuple #[.agg #[.int .i64 0, .int .i64 0, .int .i64 0, .int .i64 0], .bool false]) W := by kernel_rfl
theorem Try.yes_ask (v : Value) (W : World) : (Instr.typeAssert (.iface 73 v) 34 73 true).run Try.prog W = .ok (.tuple #[v, .bool true]) W := by kernel_rfl
theorem Try.no_ask (u : TypeId) (v : Value) (W : World) (h : u ≠ 73) : (Instr.typeAssert (.iface u v) 34 73 true).run Try.prog W = .ok (.tuple #[.agg #[.int .i64 0, .int .i64 0, .int .i64 0, .int .i64 0], .bool false]) W := by
  have e : (Instr.typeAssert (.iface u v) 34 73 true).run Try.prog W = (if u = 73 then (pure (Value.tuple #[v, .bool true]) : Sem Value) else (do pure (Value.tuple #[← zeroValue 73, .bool false]))).run Try.prog W := by kernel_rfl
  rw [e, if_neg h]
  exact Try.zero_ask W
theorem Try.nil_ask (W : World) : (Instr.typeAssert .nilIface 34 73 true).run Try.prog W = .ok (.tuple #[.agg #[.int .i64 0, .int .i64 0, .int .i64 0, .int .i64 0], .bool false]) W := by kernel_rfl
theorem Try.zero_told (W : World) : (do pure (Value.tuple #[← zeroValue 75, .bool false]) : Sem Value).run Try.prog W = .ok (.tuple #[.agg #[.int .i64 0, .int .i64 0, .int .i64 0, .int .i64 0], .bool false]) W := by kernel_rfl
theorem Try.yes_told (v : Value) (W : World) : (Instr.typeAssert (.iface 75 v) 34 75 true).run Try.prog W = .ok (.tuple #[v, .bool true]) W := by kernel_rfl
theorem Try.no_told (u : TypeId) (v : Value) (W : World) (h : u ≠ 75) : (Instr.typeAssert (.iface u v) 34 75 true).run Try.prog W = .ok (.tuple #[.agg #[.int .i64 0, .int .i64 0, .int .i64 0, .int .i64 0], .bool false]) W := by
  have e : (Instr.typeAssert (.iface u v) 34 75 true).run Try.prog W = (if u = 75 then (pure (Value.tuple #[v, .bool true]) : Sem Value) else (do pure (Value.tuple #[← zeroValue 75, .bool false]))).run Try.prog W := by kernel_rfl
  rw [e, if_neg h]
  exact Try.zero_told W
theorem Try.nil_told (W : World) : (Instr.typeAssert .nilIface 34 75 true).run Try.prog W = .ok (.tuple #[.agg #[.int .i64 0, .int .i64 0, .int .i64 0, .int .i64 0], .bool false]) W := by kernel_rfl
theorem Try.zero_append (W : World) : (do pure (Value.tuple #[← zeroValue 77, .bool false]) : Sem Value).run Try.prog W = .ok (.tuple #[.agg #[.int .i64 0, .string ⟨#[]⟩, .int .i64 0, .int .i64 0, .int .i64 0, .slice none 0 0], .bool false]) W := by kernel_rfl
theorem Try.yes_append (v : Value) (W : World) : (Instr.typeAssert (.iface 77 v) 34 77 true).run Try.prog W = .ok (.tuple #[v, .bool true]) W := by kernel_rfl
theorem Try.no_append (u : TypeId) (v : Value) (W : World) (h : u ≠ 77) : (Instr.typeAssert (.iface u v) 34 77 true).run Try.prog W = .ok (.tuple #[.agg #[.int .i64 0, .string ⟨#[]⟩, .int .i64 0, .int .i64 0, .int .i64 0, .slice none 0 0], .bool false]) W := by
  have e : (Instr.typeAssert (.iface u v) 34 77 true).run Try.prog W = (if u = 77 then (pure (Value.tuple #[v, .bool true]) : Sem Value) else (do pure (Value.tuple #[← zeroValue 77, .bool false]))).run Try.prog W := by kernel_rfl
  rw [e, if_neg h]
  exact Try.zero_append W
theorem Try.nil_append (W : World) : (Instr.typeAssert .nilIface 34 77 true).run Try.prog W = .ok (.tuple #[.agg #[.int .i64 0, .string ⟨#[]⟩, .int .i64 0, .int .i64 0, .int .i64 0, .slice none 0 0], .bool false]) W := by kernel_rfl
theorem Try.zero_read (W : World) : (do pure (Value.tuple #[← zeroValue 79, .bool false]) : Sem Value).run Try.prog W = .ok (.tuple #[.agg #[.int .i64 0, .string ⟨#[]⟩, .int .i64 0], .bool false]) W := by kernel_rfl
theorem Try.yes_read (v : Value) (W : World) : (Instr.typeAssert (.iface 79 v) 34 79 true).run Try.prog W = .ok (.tuple #[v, .bool true]) W := by kernel_rfl
theorem Try.no_read (u : TypeId) (v : Value) (W : World) (h : u ≠ 79) : (Instr.typeAssert (.iface u v) 34 79 true).run Try.prog W = .ok (.tuple #[.agg #[.int .i64 0, .string ⟨#[]⟩, .int .i64 0], .bool false]) W := by
  have e : (Instr.typeAssert (.iface u v) 34 79 true).run Try.prog W = (if u = 79 then (pure (Value.tuple #[v, .bool true]) : Sem Value) else (do pure (Value.tuple #[← zeroValue 79, .bool false]))).run Try.prog W := by kernel_rfl
  rw [e, if_neg h]
  exact Try.zero_read W
theorem Try.nil_read (W : World) : (Instr.typeAssert .nilIface 34 79 true).run Try.prog W = .ok (.tuple #[.agg #[.int .i64 0, .string ⟨#[]⟩, .int .i64 0], .bool false]) W := by kernel_rfl
theorem Try.zero_reply (W : World) : (do pure (Value.tuple #[← zeroValue 83, .bool false]) : Sem Value).run Try.prog W = .ok (.tuple #[.agg #[.int .i64 0, .int .i64 0, .int .i64 0, .int .i64 0, .int .i64 0, .int .i64 0], .bool false]) W := by kernel_rfl
theorem Try.yes_reply (v : Value) (W : World) : (Instr.typeAssert (.iface 83 v) 34 83 true).run Try.prog W = .ok (.tuple #[v, .bool true]) W := by kernel_rfl
theorem Try.no_reply (u : TypeId) (v : Value) (W : World) (h : u ≠ 83) : (Instr.typeAssert (.iface u v) 34 83 true).run Try.prog W = .ok (.tuple #[.agg #[.int .i64 0, .int .i64 0, .int .i64 0, .int .i64 0, .int .i64 0, .int .i64 0], .bool false]) W := by
  have e : (Instr.typeAssert (.iface u v) 34 83 true).run Try.prog W = (if u = 83 then (pure (Value.tuple #[v, .bool true]) : Sem Value) else (do pure (Value.tuple #[← zeroValue 83, .bool false]))).run Try.prog W := by kernel_rfl
  rw [e, if_neg h]
  exact Try.zero_reply W
theorem Try.nil_reply (W : World) : (Instr.typeAssert .nilIface 34 83 true).run Try.prog W = .ok (.tuple #[.agg #[.int .i64 0, .int .i64 0, .int .i64 0, .int .i64 0, .int .i64 0, .int .i64 0], .bool false]) W := by kernel_rfl
theorem Try.zero_result (W : World) : (do pure (Value.tuple #[← zeroValue 85, .bool false]) : Sem Value).run Try.prog W = .ok (.tuple #[.agg #[.int .i64 0, .int .i64 0, .int .i64 0, .slice none 0 0], .bool false]) W := by kernel_rfl
theorem Try.yes_result (v : Value) (W : World) : (Instr.typeAssert (.iface 85 v) 34 85 true).run Try.prog W = .ok (.tuple #[v, .bool true]) W := by kernel_rfl
theorem Try.no_result (u : TypeId) (v : Value) (W : World) (h : u ≠ 85) : (Instr.typeAssert (.iface u v) 34 85 true).run Try.prog W = .ok (.tuple #[.agg #[.int .i64 0, .int .i64 0, .int .i64 0, .slice none 0 0], .bool false]) W := by
  have e : (Instr.typeAssert (.iface u v) 34 85 true).run Try.prog W = (if u = 85 then (pure (Value.tuple #[v, .bool true]) : Sem Value) else (do pure (Value.tuple #[← zeroValue 85, .bool false]))).run Try.prog W := by kernel_rfl
  rw [e, if_neg h]
  exact Try.zero_result W
theorem Try.nil_result (W : World) : (Instr.typeAssert .nilIface 34 85 true).run Try.prog W = .ok (.tuple #[.agg #[.int .i64 0, .int .i64 0, .int .i64 0, .slice none 0 0], .bool false]) W := by kernel_rfl
theorem not_nil (W : World) (u : TypeId) (v : Value) : (binOp .eql 34 (.iface u v) .nilIface).run Try.prog W = .ok (.bool false) W := by kernel_rfl
theorem is_nil (W : World) : (binOp .eql 34 .nilIface .nilIface).run Try.prog W = .ok (.bool true) W := by kernel_rfl
end Go.Proofs.Ytljcgpdjhjkciaa
