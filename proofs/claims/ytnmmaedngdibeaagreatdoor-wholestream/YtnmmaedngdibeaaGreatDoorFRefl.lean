/-
  Closed facts and small laws on what errors.As asks of internal/reflectlite, at a number and at a place.
-/
import Derived.Test.YtnmmaedngdibeaaGreatDoorFIs
namespace Go.Proofs.YtnmmaedngdibeaaGreatDoor.F
open Go.RowKit Go.Extern.Stop Go.Stop Go.Extern

theorem valueOf43 (t : Addr) (w : World) : (callFunc 45 #[.iface 77 (.pointer (some t))]).run Tryz.prog w = .ok (.value (.agg #[.pointer (some ⟨14, 77, none⟩), .pointer (some ⟨w.heap.size, 0, none⟩), .int .u64 150])) (w.alloc (.cells #[.pointer (some t)] 77)) := by kernel_rfl
theorem type43 (a : Addr) (w : World) : (callFunc 46 #[.agg #[.pointer (some ⟨14, 77, none⟩), .pointer (some a), .int .u64 150]]).run Tryz.prog w = .ok (.value (.iface 122 (.agg #[.pointer (some ⟨14, 77, none⟩)]))) w := by kernel_rfl
theorem methodKind (h : Value) (w : World) : (Go.method 346 122 (.agg #[h]) "Kind").run Tryz.prog w = .ok (160, h) w := by kernel_rfl
theorem kind43 (w : World) : (callFunc 160 #[.pointer (some ⟨14, 77, none⟩)]).run Tryz.prog w = .ok (.value (.int .u8 22)) w := by kernel_rfl
theorem kind24 (w : World) : (callFunc 160 #[.pointer (some ⟨14, 48, none⟩)]).run Tryz.prog w = .ok (.value (.int .u8 2)) w := by kernel_rfl
theorem kind36 (w : World) : (callFunc 160 #[.pointer (some ⟨14, 79, none⟩)]).run Tryz.prog w = .ok (.value (.int .u8 25)) w := by kernel_rfl
theorem methodElem (h : Value) (w : World) : (Go.method 346 122 (.agg #[h]) "Elem").run Tryz.prog w = .ok (172, .agg #[h]) w := by kernel_rfl
theorem methodImplements (h : Value) (w : World) : (Go.method 346 122 (.agg #[h]) "Implements").run Tryz.prog w = .ok (173, .agg #[h]) w := by kernel_rfl
theorem methodAssignableTo (h : Value) (w : World) : (Go.method 346 122 (.agg #[h]) "AssignableTo").run Tryz.prog w = .ok (170, .agg #[h]) w := by kernel_rfl
theorem elem43 (w : World) : (callFunc 172 #[.agg #[.pointer (some ⟨14, 77, none⟩)]]).run Tryz.prog w = .ok (.value (.iface 122 (.agg #[.pointer (some ⟨14, 48, none⟩)]))) w := by kernel_rfl
theorem elem44 (w : World) : (callFunc 172 #[.agg #[.pointer (some ⟨14, 80, none⟩)]]).run Tryz.prog w = .ok (.value (.iface 122 (.agg #[.pointer (some ⟨14, 79, none⟩)]))) w := by kernel_rfl
theorem implements24 (w : World) : (callFunc 173 #[.agg #[.pointer (some ⟨14, 48, none⟩)], .iface 122 (.agg #[.pointer (some ⟨14, 42, none⟩)])]).run Tryz.prog w = .ok (.value (.bool true)) w := by kernel_rfl
theorem implements36 (w : World) : (callFunc 173 #[.agg #[.pointer (some ⟨14, 79, none⟩)], .iface 122 (.agg #[.pointer (some ⟨14, 42, none⟩)])]).run Tryz.prog w = .ok (.value (.bool true)) w := by kernel_rfl
theorem typeOf36 (v : Value) (w : World) : (callFunc 63 #[.iface 79 v]).run Tryz.prog w = .ok (.value (.iface 122 (.agg #[.pointer (some ⟨14, 79, none⟩)]))) w := by kernel_rfl
theorem assign2424 (w : World) : (callFunc 170 #[.agg #[.pointer (some ⟨14, 48, none⟩)], .iface 122 (.agg #[.pointer (some ⟨14, 48, none⟩)])]).run Tryz.prog w = .ok (.value (.bool true)) w := by kernel_rfl
theorem assign3624 (w : World) : (callFunc 170 #[.agg #[.pointer (some ⟨14, 79, none⟩)], .iface 122 (.agg #[.pointer (some ⟨14, 48, none⟩)])]).run Tryz.prog w = .ok (.value (.bool false)) w := by kernel_rfl
theorem assign3636 (w : World) : (callFunc 170 #[.agg #[.pointer (some ⟨14, 79, none⟩)], .iface 122 (.agg #[.pointer (some ⟨14, 79, none⟩)])]).run Tryz.prog w = .ok (.value (.bool true)) w := by kernel_rfl
theorem assign2436 (w : World) : (callFunc 170 #[.agg #[.pointer (some ⟨14, 48, none⟩)], .iface 122 (.agg #[.pointer (some ⟨14, 79, none⟩)])]).run Tryz.prog w = .ok (.value (.bool false)) w := by kernel_rfl
theorem valueOf24 (e : Int) (w : World) : (callFunc 45 #[.iface 48 (.int .i64 e)]).run Tryz.prog w = .ok (.value (.agg #[.pointer (some ⟨14, 48, none⟩), .pointer (some ⟨w.heap.size, 0, none⟩), .int .u64 130])) (w.alloc (.cells #[.int .i64 e] 48)) := by kernel_rfl
theorem valueOf36 (p : Int) (v : Value) (w : World) : (callFunc 45 #[.iface 79 (.agg #[.int .i64 p, v])]).run Tryz.prog w = .ok (.value (.agg #[.pointer (some ⟨14, 79, none⟩), .pointer (some ⟨w.heap.size, 0, none⟩), .int .u64 153])) (w.alloc (.cells #[.int .i64 p, v] 79)) := by kernel_rfl
theorem no86a (v : Value) (x : TypeId) (w : World) : (Instr.typeAssert (.iface 79 v) x 127 true).run Tryz.prog w = .ok (.tuple #[.nilIface, .bool false]) w := run_typeAssert_lacksB Tryz.underlying127 (by kernel_rfl) (by kernel_rfl) v x w
theorem no86b (v : Value) (x : TypeId) (w : World) : (Instr.typeAssert (.iface 48 v) x 127 true).run Tryz.prog w = .ok (.tuple #[.nilIface, .bool false]) w := run_typeAssert_lacksB Tryz.underlying127 (by kernel_rfl) (by kernel_rfl) v x w
theorem parts43 (a : Addr) (w : World) : (ReflectliteValue.parts (.agg #[.pointer (some ⟨14, 77, none⟩), .pointer (some a), .int .u64 150])).run Tryz.prog w = .ok (some (77, a, 150)) w := by kernel_rfl
theorem parts24a (a : Addr) (w : World) : (ReflectliteValue.parts (.agg #[.pointer (some ⟨14, 48, none⟩), .pointer (some a), .int .u64 386])).run Tryz.prog w = .ok (some (48, a, 386)) w := by kernel_rfl
theorem parts24 (a : Addr) (w : World) : (ReflectliteValue.parts (.agg #[.pointer (some ⟨14, 48, none⟩), .pointer (some a), .int .u64 130])).run Tryz.prog w = .ok (some (48, a, 130)) w := by kernel_rfl
theorem mk24 (p : Addr) (w : World) : (ReflectliteValue.mk 48 p ReflectliteValue.flagAddr).run Tryz.prog w = .ok (.agg #[.pointer (some ⟨14, 48, none⟩), .pointer (some p), .int .u64 386]) w := by kernel_rfl
theorem mk36 (p : Addr) (w : World) : (ReflectliteValue.mk 79 p ReflectliteValue.flagAddr).run Tryz.prog w = .ok (.agg #[.pointer (some ⟨14, 79, none⟩), .pointer (some p), .int .u64 409]) w := by kernel_rfl
theorem elemOf43 (w : World) : (Rtype.elem? 77).run Tryz.prog w = .ok (some 48) w := by kernel_rfl
theorem direct24 (w : World) : (Rtype.directlyAssignable 48 48).run Tryz.prog w = .ok true w := by kernel_rfl
theorem direct36 (w : World) : (Rtype.directlyAssignable 79 79).run Tryz.prog w = .ok true w := by kernel_rfl
theorem size36 (w : World) : (Go.sizeOf 79).run Tryz.prog w = .ok 2 w := by kernel_rfl
theorem valueOf44 (t : Addr) (w : World) : (callFunc 45 #[.iface 80 (.pointer (some t))]).run Tryz.prog w = .ok (.value (.agg #[.pointer (some ⟨14, 80, none⟩), .pointer (some ⟨w.heap.size, 0, none⟩), .int .u64 150])) (w.alloc (.cells #[.pointer (some t)] 80)) := by kernel_rfl
theorem type44 (a : Addr) (w : World) : (callFunc 46 #[.agg #[.pointer (some ⟨14, 80, none⟩), .pointer (some a), .int .u64 150]]).run Tryz.prog w = .ok (.value (.iface 122 (.agg #[.pointer (some ⟨14, 80, none⟩)]))) w := by kernel_rfl
theorem kind44 (w : World) : (callFunc 160 #[.pointer (some ⟨14, 80, none⟩)]).run Tryz.prog w = .ok (.value (.int .u8 22)) w := by kernel_rfl
theorem parts44 (a : Addr) (w : World) : (ReflectliteValue.parts (.agg #[.pointer (some ⟨14, 80, none⟩), .pointer (some a), .int .u64 150])).run Tryz.prog w = .ok (some (80, a, 150)) w := by kernel_rfl
theorem elemOf44 (w : World) : (Rtype.elem? 80).run Tryz.prog w = .ok (some 79) w := by kernel_rfl
theorem parts36a (a : Addr) (w : World) : (ReflectliteValue.parts (.agg #[.pointer (some ⟨14, 79, none⟩), .pointer (some a), .int .u64 409])).run Tryz.prog w = .ok (some (79, a, 409)) w := by kernel_rfl
theorem parts36 (a : Addr) (w : World) : (ReflectliteValue.parts (.agg #[.pointer (some ⟨14, 79, none⟩), .pointer (some a), .int .u64 153])).run Tryz.prog w = .ok (some (79, a, 153)) w := by kernel_rfl

theorem via_method (z : Sem Value) (f : TypeId → Addr → Nat → Nat → Sem Value) (v : Value) :
    ReflectliteValue.method z f #[v] = (do match ← ReflectliteValue.parts v with | none => z | some (t, a, fl) => f t a fl (fl % 32)) := rfl

theorem call35 (args : Array Value) (w : World) : (callFunc 47 args).run Tryz.prog w = ((ReflectliteValue.method (ReflectliteValue.valueError "reflectlite.Value.IsNil" 0) ReflectliteValue.isNil args).run Tryz.prog w).andThen fun v w' => .ok (.value v) w' :=
  run_callFunc_extern Tryz.func47 (by kernel_rfl) (by kernel_rfl) (by kernel_rfl) (by kernel_rfl) args w
theorem call47 (args : Array Value) (w : World) : (callFunc 64 args).run Tryz.prog w = ((ReflectliteValue.method (ReflectliteValue.valueError "reflectlite.Value.Elem" 0) ReflectliteValue.elem args).run Tryz.prog w).andThen fun v w' => .ok (.value v) w' :=
  run_callFunc_extern Tryz.func64 (by kernel_rfl) (by kernel_rfl) (by kernel_rfl) (by kernel_rfl) args w
theorem call48 (args : Array Value) (w : World) : (callFunc 65 args).run Tryz.prog w = ((ReflectliteValue.set args).run Tryz.prog w).andThen fun v w' => .ok (.value v) w' :=
  run_callFunc_extern Tryz.func65 (by kernel_rfl) (by kernel_rfl) (by kernel_rfl) (by kernel_rfl) args w

theorem isNil43 (a p : Addr) (W : World) (ha : W.cell? a = some (.pointer (some p))) :
    (callFunc 47 #[.agg #[.pointer (some ⟨14, 77, none⟩), .pointer (some a), .int .u64 150]]).run Tryz.prog W = .ok (.value (.bool false)) W := by
  rw [call35, via_method]
  simp only [Sem.run_bind, parts43, Result.andThen]
  simp [ReflectliteValue.isNil, loadVar, isAgg, underlying, Tryz.underlying77, ha, Result.andThen]
theorem isNil44 (a p : Addr) (W : World) (ha : W.cell? a = some (.pointer (some p))) :
    (callFunc 47 #[.agg #[.pointer (some ⟨14, 80, none⟩), .pointer (some a), .int .u64 150]]).run Tryz.prog W = .ok (.value (.bool false)) W := by
  rw [call35, via_method]
  simp only [Sem.run_bind, parts44, Result.andThen]
  simp [ReflectliteValue.isNil, loadVar, isAgg, underlying, Tryz.underlying80, ha, Result.andThen]
theorem elemV43 (a p : Addr) (W : World) (ha : W.cell? a = some (.pointer (some p))) :
    (callFunc 64 #[.agg #[.pointer (some ⟨14, 77, none⟩), .pointer (some a), .int .u64 150]]).run Tryz.prog W = .ok (.value (.agg #[.pointer (some ⟨14, 48, none⟩), .pointer (some p), .int .u64 386])) W := by
  rw [call47, via_method]
  simp only [Sem.run_bind, parts43, Result.andThen]
  simp [ReflectliteValue.elem, loadVar, isAgg, underlying, Tryz.underlying77, ha, Result.andThen, elemOf43, mk24]
theorem elemV44 (a p : Addr) (W : World) (ha : W.cell? a = some (.pointer (some p))) :
    (callFunc 64 #[.agg #[.pointer (some ⟨14, 80, none⟩), .pointer (some a), .int .u64 150]]).run Tryz.prog W = .ok (.value (.agg #[.pointer (some ⟨14, 79, none⟩), .pointer (some p), .int .u64 409])) W := by
  rw [call47, via_method]
  simp only [Sem.run_bind, parts44, Result.andThen]
  simp [ReflectliteValue.elem, loadVar, isAgg, underlying, Tryz.underlying80, ha, Result.andThen, elemOf44, mk36]
end Go.Proofs.YtnmmaedngdibeaaGreatDoor.F
