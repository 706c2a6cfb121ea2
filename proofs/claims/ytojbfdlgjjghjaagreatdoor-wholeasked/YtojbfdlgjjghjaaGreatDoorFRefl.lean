/-
  Closed facts and small laws on what errors.As asks of internal/reflectlite, at a number and at a place.
-/
import Derived.Test.YtojbfdlgjjghjaaGreatDoorFIs
namespace Go.Proofs.YtojbfdlgjjghjaaGreatDoor.F
open Go.RowKit Go.Extern.Stop Go.Stop Go.Extern

theorem valueOf43 (t : Addr) (w : World) : (callFunc 36 #[.iface 53 (.pointer (some t))]).run Tryz.prog w = .ok (.value (.agg #[.pointer (some ⟨10, 53, none⟩), .pointer (some ⟨w.heap.size, 0, none⟩), .int .u64 150])) (w.alloc (.cells #[.pointer (some t)] 53)) := by kernel_rfl
theorem type43 (a : Addr) (w : World) : (callFunc 37 #[.agg #[.pointer (some ⟨10, 53, none⟩), .pointer (some a), .int .u64 150]]).run Tryz.prog w = .ok (.value (.iface 104 (.agg #[.pointer (some ⟨10, 53, none⟩)]))) w := by kernel_rfl
theorem methodKind (h : Value) (w : World) : (Go.method 286 104 (.agg #[h]) "Kind").run Tryz.prog w = .ok (109, h) w := by kernel_rfl
theorem kind43 (w : World) : (callFunc 109 #[.pointer (some ⟨10, 53, none⟩)]).run Tryz.prog w = .ok (.value (.int .u8 22)) w := by kernel_rfl
theorem kind24 (w : World) : (callFunc 109 #[.pointer (some ⟨10, 25, none⟩)]).run Tryz.prog w = .ok (.value (.int .u8 2)) w := by kernel_rfl
theorem kind36 (w : World) : (callFunc 109 #[.pointer (some ⟨10, 60, none⟩)]).run Tryz.prog w = .ok (.value (.int .u8 25)) w := by kernel_rfl
theorem methodElem (h : Value) (w : World) : (Go.method 286 104 (.agg #[h]) "Elem").run Tryz.prog w = .ok (122, .agg #[h]) w := by kernel_rfl
theorem methodImplements (h : Value) (w : World) : (Go.method 286 104 (.agg #[h]) "Implements").run Tryz.prog w = .ok (123, .agg #[h]) w := by kernel_rfl
theorem methodAssignableTo (h : Value) (w : World) : (Go.method 286 104 (.agg #[h]) "AssignableTo").run Tryz.prog w = .ok (120, .agg #[h]) w := by kernel_rfl
theorem elem43 (w : World) : (callFunc 122 #[.agg #[.pointer (some ⟨10, 53, none⟩)]]).run Tryz.prog w = .ok (.value (.iface 104 (.agg #[.pointer (some ⟨10, 25, none⟩)]))) w := by kernel_rfl
theorem implements24 (w : World) : (callFunc 123 #[.agg #[.pointer (some ⟨10, 25, none⟩)], .iface 104 (.agg #[.pointer (some ⟨10, 30, none⟩)])]).run Tryz.prog w = .ok (.value (.bool true)) w := by kernel_rfl
theorem implements36 (w : World) : (callFunc 123 #[.agg #[.pointer (some ⟨10, 60, none⟩)], .iface 104 (.agg #[.pointer (some ⟨10, 30, none⟩)])]).run Tryz.prog w = .ok (.value (.bool true)) w := by kernel_rfl
theorem typeOf36 (v : Value) (w : World) : (callFunc 46 #[.iface 60 v]).run Tryz.prog w = .ok (.value (.iface 104 (.agg #[.pointer (some ⟨10, 60, none⟩)]))) w := by kernel_rfl
theorem assign2424 (w : World) : (callFunc 120 #[.agg #[.pointer (some ⟨10, 25, none⟩)], .iface 104 (.agg #[.pointer (some ⟨10, 25, none⟩)])]).run Tryz.prog w = .ok (.value (.bool true)) w := by kernel_rfl
theorem assign3624 (w : World) : (callFunc 120 #[.agg #[.pointer (some ⟨10, 60, none⟩)], .iface 104 (.agg #[.pointer (some ⟨10, 25, none⟩)])]).run Tryz.prog w = .ok (.value (.bool false)) w := by kernel_rfl
theorem assign3636 (w : World) : (callFunc 120 #[.agg #[.pointer (some ⟨10, 60, none⟩)], .iface 104 (.agg #[.pointer (some ⟨10, 60, none⟩)])]).run Tryz.prog w = .ok (.value (.bool true)) w := by kernel_rfl
theorem assign2436 (w : World) : (callFunc 120 #[.agg #[.pointer (some ⟨10, 25, none⟩)], .iface 104 (.agg #[.pointer (some ⟨10, 60, none⟩)])]).run Tryz.prog w = .ok (.value (.bool false)) w := by kernel_rfl
theorem valueOf24 (e : Int) (w : World) : (callFunc 36 #[.iface 25 (.int .i64 e)]).run Tryz.prog w = .ok (.value (.agg #[.pointer (some ⟨10, 25, none⟩), .pointer (some ⟨w.heap.size, 0, none⟩), .int .u64 130])) (w.alloc (.cells #[.int .i64 e] 25)) := by kernel_rfl
theorem valueOf36 (p : Int) (v : Value) (w : World) : (callFunc 36 #[.iface 60 (.agg #[.int .i64 p, v])]).run Tryz.prog w = .ok (.value (.agg #[.pointer (some ⟨10, 60, none⟩), .pointer (some ⟨w.heap.size, 0, none⟩), .int .u64 153])) (w.alloc (.cells #[.int .i64 p, v] 60)) := by kernel_rfl
theorem no86a (v : Value) (x : TypeId) (w : World) : (Instr.typeAssert (.iface 60 v) x 108 true).run Tryz.prog w = .ok (.tuple #[.nilIface, .bool false]) w := run_typeAssert_lacksB Tryz.underlying108 (by kernel_rfl) (by kernel_rfl) v x w
theorem no86b (v : Value) (x : TypeId) (w : World) : (Instr.typeAssert (.iface 25 v) x 108 true).run Tryz.prog w = .ok (.tuple #[.nilIface, .bool false]) w := run_typeAssert_lacksB Tryz.underlying108 (by kernel_rfl) (by kernel_rfl) v x w
theorem parts43 (a : Addr) (w : World) : (ReflectliteValue.parts (.agg #[.pointer (some ⟨10, 53, none⟩), .pointer (some a), .int .u64 150])).run Tryz.prog w = .ok (some (53, a, 150)) w := by kernel_rfl
theorem parts24a (a : Addr) (w : World) : (ReflectliteValue.parts (.agg #[.pointer (some ⟨10, 25, none⟩), .pointer (some a), .int .u64 386])).run Tryz.prog w = .ok (some (25, a, 386)) w := by kernel_rfl
theorem parts24 (a : Addr) (w : World) : (ReflectliteValue.parts (.agg #[.pointer (some ⟨10, 25, none⟩), .pointer (some a), .int .u64 130])).run Tryz.prog w = .ok (some (25, a, 130)) w := by kernel_rfl
theorem mk24 (p : Addr) (w : World) : (ReflectliteValue.mk 25 p ReflectliteValue.flagAddr).run Tryz.prog w = .ok (.agg #[.pointer (some ⟨10, 25, none⟩), .pointer (some p), .int .u64 386]) w := by kernel_rfl
theorem mk36 (p : Addr) (w : World) : (ReflectliteValue.mk 60 p ReflectliteValue.flagAddr).run Tryz.prog w = .ok (.agg #[.pointer (some ⟨10, 60, none⟩), .pointer (some p), .int .u64 409]) w := by kernel_rfl
theorem elemOf43 (w : World) : (Rtype.elem? 53).run Tryz.prog w = .ok (some 25) w := by kernel_rfl
theorem direct24 (w : World) : (Rtype.directlyAssignable 25 25).run Tryz.prog w = .ok true w := by kernel_rfl
theorem direct36 (w : World) : (Rtype.directlyAssignable 60 60).run Tryz.prog w = .ok true w := by kernel_rfl
theorem size36 (w : World) : (Go.sizeOf 60).run Tryz.prog w = .ok 2 w := by kernel_rfl
theorem parts36a (a : Addr) (w : World) : (ReflectliteValue.parts (.agg #[.pointer (some ⟨10, 60, none⟩), .pointer (some a), .int .u64 409])).run Tryz.prog w = .ok (some (60, a, 409)) w := by kernel_rfl
theorem parts36 (a : Addr) (w : World) : (ReflectliteValue.parts (.agg #[.pointer (some ⟨10, 60, none⟩), .pointer (some a), .int .u64 153])).run Tryz.prog w = .ok (some (60, a, 153)) w := by kernel_rfl

theorem via_method (z : Sem Value) (f : TypeId → Addr → Nat → Nat → Sem Value) (v : Value) :
    ReflectliteValue.method z f #[v] = (do match ← ReflectliteValue.parts v with | none => z | some (t, a, fl) => f t a fl (fl % 32)) := rfl

theorem call35 (args : Array Value) (w : World) : (callFunc 38 args).run Tryz.prog w = ((ReflectliteValue.method (ReflectliteValue.valueError "reflectlite.Value.IsNil" 0) ReflectliteValue.isNil args).run Tryz.prog w).andThen fun v w' => .ok (.value v) w' :=
  run_callFunc_extern Tryz.func38 (by kernel_rfl) (by kernel_rfl) (by kernel_rfl) (by kernel_rfl) args w
theorem call47 (args : Array Value) (w : World) : (callFunc 55 args).run Tryz.prog w = ((ReflectliteValue.method (ReflectliteValue.valueError "reflectlite.Value.Elem" 0) ReflectliteValue.elem args).run Tryz.prog w).andThen fun v w' => .ok (.value v) w' :=
  run_callFunc_extern Tryz.func55 (by kernel_rfl) (by kernel_rfl) (by kernel_rfl) (by kernel_rfl) args w
theorem call48 (args : Array Value) (w : World) : (callFunc 56 args).run Tryz.prog w = ((ReflectliteValue.set args).run Tryz.prog w).andThen fun v w' => .ok (.value v) w' :=
  run_callFunc_extern Tryz.func56 (by kernel_rfl) (by kernel_rfl) (by kernel_rfl) (by kernel_rfl) args w

theorem isNil43 (a p : Addr) (W : World) (ha : W.cell? a = some (.pointer (some p))) :
    (callFunc 38 #[.agg #[.pointer (some ⟨10, 53, none⟩), .pointer (some a), .int .u64 150]]).run Tryz.prog W = .ok (.value (.bool false)) W := by
  rw [call35, via_method]
  simp only [Sem.run_bind, parts43, Result.andThen]
  simp [ReflectliteValue.isNil, loadVar, isAgg, underlying, Tryz.underlying53, ha, Result.andThen]
theorem elemV43 (a p : Addr) (W : World) (ha : W.cell? a = some (.pointer (some p))) :
    (callFunc 55 #[.agg #[.pointer (some ⟨10, 53, none⟩), .pointer (some a), .int .u64 150]]).run Tryz.prog W = .ok (.value (.agg #[.pointer (some ⟨10, 25, none⟩), .pointer (some p), .int .u64 386])) W := by
  rw [call47, via_method]
  simp only [Sem.run_bind, parts43, Result.andThen]
  simp [ReflectliteValue.elem, loadVar, isAgg, underlying, Tryz.underlying53, ha, Result.andThen, elemOf43, mk24]
end Go.Proofs.YtojbfdlgjjghjaaGreatDoor.F
