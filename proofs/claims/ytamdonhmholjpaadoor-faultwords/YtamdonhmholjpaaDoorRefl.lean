/-
  Closed facts and small laws on what errors.As asks of internal/reflectlite, at a number and at a place.
-/
import Derived.Test.YtamdonhmholjpaaDoorIs
namespace Go.Proofs.YtamdonhmholjpaaDoor
open Go.RowKit Go.Extern.Stop Go.Stop Go.Extern

theorem valueOf43 (t : Addr) (w : World) : (callFunc 33 #[.iface 43 (.pointer (some t))]).run Tryd.prog w = .ok (.value (.agg #[.pointer (some ⟨5, 43, none⟩), .pointer (some ⟨w.heap.size, 0, none⟩), .int .u64 150])) (w.alloc (.cells #[.pointer (some t)] 43)) := by kernel_rfl
theorem type43 (a : Addr) (w : World) : (callFunc 34 #[.agg #[.pointer (some ⟨5, 43, none⟩), .pointer (some a), .int .u64 150]]).run Tryd.prog w = .ok (.value (.iface 82 (.agg #[.pointer (some ⟨5, 43, none⟩)]))) w := by kernel_rfl
theorem methodKind (h : Value) (w : World) : (Go.method 244 82 (.agg #[h]) "Kind").run Tryd.prog w = .ok (82, h) w := by kernel_rfl
theorem kind43 (w : World) : (callFunc 82 #[.pointer (some ⟨5, 43, none⟩)]).run Tryd.prog w = .ok (.value (.int .u8 22)) w := by kernel_rfl
theorem kind24 (w : World) : (callFunc 82 #[.pointer (some ⟨5, 24, none⟩)]).run Tryd.prog w = .ok (.value (.int .u8 2)) w := by kernel_rfl
theorem kind36 (w : World) : (callFunc 82 #[.pointer (some ⟨5, 36, none⟩)]).run Tryd.prog w = .ok (.value (.int .u8 25)) w := by kernel_rfl
theorem methodElem (h : Value) (w : World) : (Go.method 244 82 (.agg #[h]) "Elem").run Tryd.prog w = .ok (92, .agg #[h]) w := by kernel_rfl
theorem methodImplements (h : Value) (w : World) : (Go.method 244 82 (.agg #[h]) "Implements").run Tryd.prog w = .ok (93, .agg #[h]) w := by kernel_rfl
theorem methodAssignableTo (h : Value) (w : World) : (Go.method 244 82 (.agg #[h]) "AssignableTo").run Tryd.prog w = .ok (90, .agg #[h]) w := by kernel_rfl
theorem elem43 (w : World) : (callFunc 92 #[.agg #[.pointer (some ⟨5, 43, none⟩)]]).run Tryd.prog w = .ok (.value (.iface 82 (.agg #[.pointer (some ⟨5, 24, none⟩)]))) w := by kernel_rfl
theorem elem44 (w : World) : (callFunc 92 #[.agg #[.pointer (some ⟨5, 44, none⟩)]]).run Tryd.prog w = .ok (.value (.iface 82 (.agg #[.pointer (some ⟨5, 36, none⟩)]))) w := by kernel_rfl
theorem implements24 (w : World) : (callFunc 93 #[.agg #[.pointer (some ⟨5, 24, none⟩)], .iface 82 (.agg #[.pointer (some ⟨5, 26, none⟩)])]).run Tryd.prog w = .ok (.value (.bool true)) w := by kernel_rfl
theorem implements36 (w : World) : (callFunc 93 #[.agg #[.pointer (some ⟨5, 36, none⟩)], .iface 82 (.agg #[.pointer (some ⟨5, 26, none⟩)])]).run Tryd.prog w = .ok (.value (.bool true)) w := by kernel_rfl
theorem typeOf36 (v : Value) (w : World) : (callFunc 37 #[.iface 36 v]).run Tryd.prog w = .ok (.value (.iface 82 (.agg #[.pointer (some ⟨5, 36, none⟩)]))) w := by kernel_rfl
theorem assign2424 (w : World) : (callFunc 90 #[.agg #[.pointer (some ⟨5, 24, none⟩)], .iface 82 (.agg #[.pointer (some ⟨5, 24, none⟩)])]).run Tryd.prog w = .ok (.value (.bool true)) w := by kernel_rfl
theorem assign3624 (w : World) : (callFunc 90 #[.agg #[.pointer (some ⟨5, 36, none⟩)], .iface 82 (.agg #[.pointer (some ⟨5, 24, none⟩)])]).run Tryd.prog w = .ok (.value (.bool false)) w := by kernel_rfl
theorem assign3636 (w : World) : (callFunc 90 #[.agg #[.pointer (some ⟨5, 36, none⟩)], .iface 82 (.agg #[.pointer (some ⟨5, 36, none⟩)])]).run Tryd.prog w = .ok (.value (.bool true)) w := by kernel_rfl
theorem assign2436 (w : World) : (callFunc 90 #[.agg #[.pointer (some ⟨5, 24, none⟩)], .iface 82 (.agg #[.pointer (some ⟨5, 36, none⟩)])]).run Tryd.prog w = .ok (.value (.bool false)) w := by kernel_rfl
theorem valueOf24 (e : Int) (w : World) : (callFunc 33 #[.iface 24 (.int .i64 e)]).run Tryd.prog w = .ok (.value (.agg #[.pointer (some ⟨5, 24, none⟩), .pointer (some ⟨w.heap.size, 0, none⟩), .int .u64 130])) (w.alloc (.cells #[.int .i64 e] 24)) := by kernel_rfl
theorem valueOf36 (p : Int) (v : Value) (w : World) : (callFunc 33 #[.iface 36 (.agg #[.int .i64 p, v])]).run Tryd.prog w = .ok (.value (.agg #[.pointer (some ⟨5, 36, none⟩), .pointer (some ⟨w.heap.size, 0, none⟩), .int .u64 153])) (w.alloc (.cells #[.int .i64 p, v] 36)) := by kernel_rfl
theorem no86a (v : Value) (x : TypeId) (w : World) : (Instr.typeAssert (.iface 36 v) x 86 true).run Tryd.prog w = .ok (.tuple #[.nilIface, .bool false]) w := run_typeAssert_lacksB Tryd.underlying86 (by kernel_rfl) (by kernel_rfl) v x w
theorem no86b (v : Value) (x : TypeId) (w : World) : (Instr.typeAssert (.iface 24 v) x 86 true).run Tryd.prog w = .ok (.tuple #[.nilIface, .bool false]) w := run_typeAssert_lacksB Tryd.underlying86 (by kernel_rfl) (by kernel_rfl) v x w
theorem parts43 (a : Addr) (w : World) : (ReflectliteValue.parts (.agg #[.pointer (some ⟨5, 43, none⟩), .pointer (some a), .int .u64 150])).run Tryd.prog w = .ok (some (43, a, 150)) w := by kernel_rfl
theorem parts24a (a : Addr) (w : World) : (ReflectliteValue.parts (.agg #[.pointer (some ⟨5, 24, none⟩), .pointer (some a), .int .u64 386])).run Tryd.prog w = .ok (some (24, a, 386)) w := by kernel_rfl
theorem parts24 (a : Addr) (w : World) : (ReflectliteValue.parts (.agg #[.pointer (some ⟨5, 24, none⟩), .pointer (some a), .int .u64 130])).run Tryd.prog w = .ok (some (24, a, 130)) w := by kernel_rfl
theorem mk24 (p : Addr) (w : World) : (ReflectliteValue.mk 24 p ReflectliteValue.flagAddr).run Tryd.prog w = .ok (.agg #[.pointer (some ⟨5, 24, none⟩), .pointer (some p), .int .u64 386]) w := by kernel_rfl
theorem mk36 (p : Addr) (w : World) : (ReflectliteValue.mk 36 p ReflectliteValue.flagAddr).run Tryd.prog w = .ok (.agg #[.pointer (some ⟨5, 36, none⟩), .pointer (some p), .int .u64 409]) w := by kernel_rfl
theorem elemOf43 (w : World) : (Rtype.elem? 43).run Tryd.prog w = .ok (some 24) w := by kernel_rfl
theorem direct24 (w : World) : (Rtype.directlyAssignable 24 24).run Tryd.prog w = .ok true w := by kernel_rfl
theorem direct36 (w : World) : (Rtype.directlyAssignable 36 36).run Tryd.prog w = .ok true w := by kernel_rfl
theorem size36 (w : World) : (Go.sizeOf 36).run Tryd.prog w = .ok 2 w := by kernel_rfl
theorem valueOf44 (t : Addr) (w : World) : (callFunc 33 #[.iface 44 (.pointer (some t))]).run Tryd.prog w = .ok (.value (.agg #[.pointer (some ⟨5, 44, none⟩), .pointer (some ⟨w.heap.size, 0, none⟩), .int .u64 150])) (w.alloc (.cells #[.pointer (some t)] 44)) := by kernel_rfl
theorem type44 (a : Addr) (w : World) : (callFunc 34 #[.agg #[.pointer (some ⟨5, 44, none⟩), .pointer (some a), .int .u64 150]]).run Tryd.prog w = .ok (.value (.iface 82 (.agg #[.pointer (some ⟨5, 44, none⟩)]))) w := by kernel_rfl
theorem kind44 (w : World) : (callFunc 82 #[.pointer (some ⟨5, 44, none⟩)]).run Tryd.prog w = .ok (.value (.int .u8 22)) w := by kernel_rfl
theorem parts44 (a : Addr) (w : World) : (ReflectliteValue.parts (.agg #[.pointer (some ⟨5, 44, none⟩), .pointer (some a), .int .u64 150])).run Tryd.prog w = .ok (some (44, a, 150)) w := by kernel_rfl
theorem elemOf44 (w : World) : (Rtype.elem? 44).run Tryd.prog w = .ok (some 36) w := by kernel_rfl
theorem parts36a (a : Addr) (w : World) : (ReflectliteValue.parts (.agg #[.pointer (some ⟨5, 36, none⟩), .pointer (some a), .int .u64 409])).run Tryd.prog w = .ok (some (36, a, 409)) w := by kernel_rfl
theorem parts36 (a : Addr) (w : World) : (ReflectliteValue.parts (.agg #[.pointer (some ⟨5, 36, none⟩), .pointer (some a), .int .u64 153])).run Tryd.prog w = .ok (some (36, a, 153)) w := by kernel_rfl

theorem via_method (z : Sem Value) (f : TypeId → Addr → Nat → Nat → Sem Value) (v : Value) :
    ReflectliteValue.method z f #[v] = (do match ← ReflectliteValue.parts v with | none => z | some (t, a, fl) => f t a fl (fl % 32)) := rfl

theorem call35 (args : Array Value) (w : World) : (callFunc 35 args).run Tryd.prog w = ((ReflectliteValue.method (ReflectliteValue.valueError "reflectlite.Value.IsNil" 0) ReflectliteValue.isNil args).run Tryd.prog w).andThen fun v w' => .ok (.value v) w' :=
  run_callFunc_extern Tryd.func35 (by kernel_rfl) (by kernel_rfl) (by kernel_rfl) (by kernel_rfl) args w
theorem call47 (args : Array Value) (w : World) : (callFunc 47 args).run Tryd.prog w = ((ReflectliteValue.method (ReflectliteValue.valueError "reflectlite.Value.Elem" 0) ReflectliteValue.elem args).run Tryd.prog w).andThen fun v w' => .ok (.value v) w' :=
  run_callFunc_extern Tryd.func47 (by kernel_rfl) (by kernel_rfl) (by kernel_rfl) (by kernel_rfl) args w
theorem call48 (args : Array Value) (w : World) : (callFunc 48 args).run Tryd.prog w = ((ReflectliteValue.set args).run Tryd.prog w).andThen fun v w' => .ok (.value v) w' :=
  run_callFunc_extern Tryd.func48 (by kernel_rfl) (by kernel_rfl) (by kernel_rfl) (by kernel_rfl) args w

theorem isNil43 (a p : Addr) (W : World) (ha : W.cell? a = some (.pointer (some p))) :
    (callFunc 35 #[.agg #[.pointer (some ⟨5, 43, none⟩), .pointer (some a), .int .u64 150]]).run Tryd.prog W = .ok (.value (.bool false)) W := by
  rw [call35, via_method]
  simp only [Sem.run_bind, parts43, Result.andThen]
  simp [ReflectliteValue.isNil, loadVar, isAgg, underlying, Tryd.underlying43, ha, Result.andThen]
theorem isNil44 (a p : Addr) (W : World) (ha : W.cell? a = some (.pointer (some p))) :
    (callFunc 35 #[.agg #[.pointer (some ⟨5, 44, none⟩), .pointer (some a), .int .u64 150]]).run Tryd.prog W = .ok (.value (.bool false)) W := by
  rw [call35, via_method]
  simp only [Sem.run_bind, parts44, Result.andThen]
  simp [ReflectliteValue.isNil, loadVar, isAgg, underlying, Tryd.underlying44, ha, Result.andThen]
theorem elemV43 (a p : Addr) (W : World) (ha : W.cell? a = some (.pointer (some p))) :
    (callFunc 47 #[.agg #[.pointer (some ⟨5, 43, none⟩), .pointer (some a), .int .u64 150]]).run Tryd.prog W = .ok (.value (.agg #[.pointer (some ⟨5, 24, none⟩), .pointer (some p), .int .u64 386])) W := by
  rw [call47, via_method]
  simp only [Sem.run_bind, parts43, Result.andThen]
  simp [ReflectliteValue.elem, loadVar, isAgg, underlying, Tryd.underlying43, ha, Result.andThen, elemOf43, mk24]
theorem elemV44 (a p : Addr) (W : World) (ha : W.cell? a = some (.pointer (some p))) :
    (callFunc 47 #[.agg #[.pointer (some ⟨5, 44, none⟩), .pointer (some a), .int .u64 150]]).run Tryd.prog W = .ok (.value (.agg #[.pointer (some ⟨5, 36, none⟩), .pointer (some p), .int .u64 409])) W := by
  rw [call47, via_method]
  simp only [Sem.run_bind, parts44, Result.andThen]
  simp [ReflectliteValue.elem, loadVar, isAgg, underlying, Tryd.underlying44, ha, Result.andThen, elemOf44, mk36]
end Go.Proofs.YtamdonhmholjpaaDoor
