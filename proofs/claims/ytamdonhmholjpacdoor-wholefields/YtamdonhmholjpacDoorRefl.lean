/-
  Closed facts and small laws on what errors.As asks of internal/reflectlite, at a number and at a place.
-/
import Derived.Test.YtamdonhmholjpacDoorIs
namespace Go.Proofs.YtamdonhmholjpacDoor
open Go.RowKit Go.Extern.Stop Go.Stop Go.Extern

theorem valueOf43 (t : Addr) (w : World) : (callFunc 24 #[.iface 41 (.pointer (some t))]).run Tryd.prog w = .ok (.value (.agg #[.pointer (some ⟨1, 41, none⟩), .pointer (some ⟨w.heap.size, 0, none⟩), .int .u64 150])) (w.alloc (.cells #[.pointer (some t)] 41)) := by kernel_rfl
theorem type43 (a : Addr) (w : World) : (callFunc 25 #[.agg #[.pointer (some ⟨1, 41, none⟩), .pointer (some a), .int .u64 150]]).run Tryd.prog w = .ok (.value (.iface 71 (.agg #[.pointer (some ⟨1, 41, none⟩)]))) w := by kernel_rfl
theorem methodKind (h : Value) (w : World) : (Go.method 213 71 (.agg #[h]) "Kind").run Tryd.prog w = .ok (47, h) w := by kernel_rfl
theorem kind43 (w : World) : (callFunc 47 #[.pointer (some ⟨1, 41, none⟩)]).run Tryd.prog w = .ok (.value (.int .u8 22)) w := by kernel_rfl
theorem kind24 (w : World) : (callFunc 47 #[.pointer (some ⟨1, 23, none⟩)]).run Tryd.prog w = .ok (.value (.int .u8 2)) w := by kernel_rfl
theorem kind36 (w : World) : (callFunc 47 #[.pointer (some ⟨1, 44, none⟩)]).run Tryd.prog w = .ok (.value (.int .u8 25)) w := by kernel_rfl
theorem methodElem (h : Value) (w : World) : (Go.method 213 71 (.agg #[h]) "Elem").run Tryd.prog w = .ok (59, .agg #[h]) w := by kernel_rfl
theorem methodImplements (h : Value) (w : World) : (Go.method 213 71 (.agg #[h]) "Implements").run Tryd.prog w = .ok (60, .agg #[h]) w := by kernel_rfl
theorem methodAssignableTo (h : Value) (w : World) : (Go.method 213 71 (.agg #[h]) "AssignableTo").run Tryd.prog w = .ok (57, .agg #[h]) w := by kernel_rfl
theorem elem43 (w : World) : (callFunc 59 #[.agg #[.pointer (some ⟨1, 41, none⟩)]]).run Tryd.prog w = .ok (.value (.iface 71 (.agg #[.pointer (some ⟨1, 23, none⟩)]))) w := by kernel_rfl
theorem implements24 (w : World) : (callFunc 60 #[.agg #[.pointer (some ⟨1, 23, none⟩)], .iface 71 (.agg #[.pointer (some ⟨1, 29, none⟩)])]).run Tryd.prog w = .ok (.value (.bool true)) w := by kernel_rfl
theorem implements36 (w : World) : (callFunc 60 #[.agg #[.pointer (some ⟨1, 44, none⟩)], .iface 71 (.agg #[.pointer (some ⟨1, 29, none⟩)])]).run Tryd.prog w = .ok (.value (.bool true)) w := by kernel_rfl
theorem typeOf36 (v : Value) (w : World) : (callFunc 29 #[.iface 44 v]).run Tryd.prog w = .ok (.value (.iface 71 (.agg #[.pointer (some ⟨1, 44, none⟩)]))) w := by kernel_rfl
theorem assign2424 (w : World) : (callFunc 57 #[.agg #[.pointer (some ⟨1, 23, none⟩)], .iface 71 (.agg #[.pointer (some ⟨1, 23, none⟩)])]).run Tryd.prog w = .ok (.value (.bool true)) w := by kernel_rfl
theorem assign3624 (w : World) : (callFunc 57 #[.agg #[.pointer (some ⟨1, 44, none⟩)], .iface 71 (.agg #[.pointer (some ⟨1, 23, none⟩)])]).run Tryd.prog w = .ok (.value (.bool false)) w := by kernel_rfl
theorem assign3636 (w : World) : (callFunc 57 #[.agg #[.pointer (some ⟨1, 44, none⟩)], .iface 71 (.agg #[.pointer (some ⟨1, 44, none⟩)])]).run Tryd.prog w = .ok (.value (.bool true)) w := by kernel_rfl
theorem assign2436 (w : World) : (callFunc 57 #[.agg #[.pointer (some ⟨1, 23, none⟩)], .iface 71 (.agg #[.pointer (some ⟨1, 44, none⟩)])]).run Tryd.prog w = .ok (.value (.bool false)) w := by kernel_rfl
theorem valueOf24 (e : Int) (w : World) : (callFunc 24 #[.iface 23 (.int .i64 e)]).run Tryd.prog w = .ok (.value (.agg #[.pointer (some ⟨1, 23, none⟩), .pointer (some ⟨w.heap.size, 0, none⟩), .int .u64 130])) (w.alloc (.cells #[.int .i64 e] 23)) := by kernel_rfl
theorem valueOf36 (p : Int) (v : Value) (w : World) : (callFunc 24 #[.iface 44 (.agg #[.int .i64 p, v])]).run Tryd.prog w = .ok (.value (.agg #[.pointer (some ⟨1, 44, none⟩), .pointer (some ⟨w.heap.size, 0, none⟩), .int .u64 153])) (w.alloc (.cells #[.int .i64 p, v] 44)) := by kernel_rfl
theorem no86a (v : Value) (x : TypeId) (w : World) : (Instr.typeAssert (.iface 44 v) x 75 true).run Tryd.prog w = .ok (.tuple #[.nilIface, .bool false]) w := run_typeAssert_lacksB Tryd.underlying75 (by kernel_rfl) (by kernel_rfl) v x w
theorem no86b (v : Value) (x : TypeId) (w : World) : (Instr.typeAssert (.iface 23 v) x 75 true).run Tryd.prog w = .ok (.tuple #[.nilIface, .bool false]) w := run_typeAssert_lacksB Tryd.underlying75 (by kernel_rfl) (by kernel_rfl) v x w
theorem parts43 (a : Addr) (w : World) : (ReflectliteValue.parts (.agg #[.pointer (some ⟨1, 41, none⟩), .pointer (some a), .int .u64 150])).run Tryd.prog w = .ok (some (41, a, 150)) w := by kernel_rfl
theorem parts24a (a : Addr) (w : World) : (ReflectliteValue.parts (.agg #[.pointer (some ⟨1, 23, none⟩), .pointer (some a), .int .u64 386])).run Tryd.prog w = .ok (some (23, a, 386)) w := by kernel_rfl
theorem parts24 (a : Addr) (w : World) : (ReflectliteValue.parts (.agg #[.pointer (some ⟨1, 23, none⟩), .pointer (some a), .int .u64 130])).run Tryd.prog w = .ok (some (23, a, 130)) w := by kernel_rfl
theorem mk24 (p : Addr) (w : World) : (ReflectliteValue.mk 23 p ReflectliteValue.flagAddr).run Tryd.prog w = .ok (.agg #[.pointer (some ⟨1, 23, none⟩), .pointer (some p), .int .u64 386]) w := by kernel_rfl
theorem mk36 (p : Addr) (w : World) : (ReflectliteValue.mk 44 p ReflectliteValue.flagAddr).run Tryd.prog w = .ok (.agg #[.pointer (some ⟨1, 44, none⟩), .pointer (some p), .int .u64 409]) w := by kernel_rfl
theorem elemOf43 (w : World) : (Rtype.elem? 41).run Tryd.prog w = .ok (some 23) w := by kernel_rfl
theorem direct24 (w : World) : (Rtype.directlyAssignable 23 23).run Tryd.prog w = .ok true w := by kernel_rfl
theorem direct36 (w : World) : (Rtype.directlyAssignable 44 44).run Tryd.prog w = .ok true w := by kernel_rfl
theorem size36 (w : World) : (Go.sizeOf 44).run Tryd.prog w = .ok 2 w := by kernel_rfl
theorem parts36a (a : Addr) (w : World) : (ReflectliteValue.parts (.agg #[.pointer (some ⟨1, 44, none⟩), .pointer (some a), .int .u64 409])).run Tryd.prog w = .ok (some (44, a, 409)) w := by kernel_rfl
theorem parts36 (a : Addr) (w : World) : (ReflectliteValue.parts (.agg #[.pointer (some ⟨1, 44, none⟩), .pointer (some a), .int .u64 153])).run Tryd.prog w = .ok (some (44, a, 153)) w := by kernel_rfl

theorem via_method (z : Sem Value) (f : TypeId → Addr → Nat → Nat → Sem Value) (v : Value) :
    ReflectliteValue.method z f #[v] = (do match ← ReflectliteValue.parts v with | none => z | some (t, a, fl) => f t a fl (fl % 32)) := rfl

theorem call35 (args : Array Value) (w : World) : (callFunc 26 args).run Tryd.prog w = ((ReflectliteValue.method (ReflectliteValue.valueError "reflectlite.Value.IsNil" 0) ReflectliteValue.isNil args).run Tryd.prog w).andThen fun v w' => .ok (.value v) w' :=
  run_callFunc_extern Tryd.func26 (by kernel_rfl) (by kernel_rfl) (by kernel_rfl) (by kernel_rfl) args w
theorem call47 (args : Array Value) (w : World) : (callFunc 31 args).run Tryd.prog w = ((ReflectliteValue.method (ReflectliteValue.valueError "reflectlite.Value.Elem" 0) ReflectliteValue.elem args).run Tryd.prog w).andThen fun v w' => .ok (.value v) w' :=
  run_callFunc_extern Tryd.func31 (by kernel_rfl) (by kernel_rfl) (by kernel_rfl) (by kernel_rfl) args w
theorem call48 (args : Array Value) (w : World) : (callFunc 32 args).run Tryd.prog w = ((ReflectliteValue.set args).run Tryd.prog w).andThen fun v w' => .ok (.value v) w' :=
  run_callFunc_extern Tryd.func32 (by kernel_rfl) (by kernel_rfl) (by kernel_rfl) (by kernel_rfl) args w

theorem isNil43 (a p : Addr) (W : World) (ha : W.cell? a = some (.pointer (some p))) :
    (callFunc 26 #[.agg #[.pointer (some ⟨1, 41, none⟩), .pointer (some a), .int .u64 150]]).run Tryd.prog W = .ok (.value (.bool false)) W := by
  rw [call35, via_method]
  simp only [Sem.run_bind, parts43, Result.andThen]
  simp [ReflectliteValue.isNil, loadVar, isAgg, underlying, Tryd.underlying41, ha, Result.andThen]
theorem elemV43 (a p : Addr) (W : World) (ha : W.cell? a = some (.pointer (some p))) :
    (callFunc 31 #[.agg #[.pointer (some ⟨1, 41, none⟩), .pointer (some a), .int .u64 150]]).run Tryd.prog W = .ok (.value (.agg #[.pointer (some ⟨1, 23, none⟩), .pointer (some p), .int .u64 386])) W := by
  rw [call47, via_method]
  simp only [Sem.run_bind, parts43, Result.andThen]
  simp [ReflectliteValue.elem, loadVar, isAgg, underlying, Tryd.underlying41, ha, Result.andThen, elemOf43, mk24]
end Go.Proofs.YtamdonhmholjpacDoor
