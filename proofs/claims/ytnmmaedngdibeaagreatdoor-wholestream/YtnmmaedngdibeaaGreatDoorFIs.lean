/-
  Contracts: errors.Is and fault.Is, over errors in so many places, at a number.
-/
import Derived.Test.YtnmmaedngdibeaaGreatDoorFDepth
namespace Go.Proofs.YtnmmaedngdibeaaGreatDoor.F
open Go.RowKit Go.Extern.Stop Go.Stop Go.Extern

theorem eql_num (a b : Int) (w : World) : (binOp .eql 42 (.iface 48 (.int .i64 a)) (.iface 48 (.int .i64 b))).run Tryz.prog w = .ok (.bool (a == b)) w := by
  have hc : (Tryz.prog.info? 48).map (fun i => i.comparable) = some true := by kernel_rfl
  obtain ⟨i, hi, hcomp⟩ := Option.map_eq_some_iff.1 hc
  have h : ∀ d : Nat, (Op.equalIn (d + 2) 42 (.iface 48 (.int .i64 a)) (.iface 48 (.int .i64 b))).run Tryz.prog w = .ok (a == b) w := fun d => by
    simp [Op.equalIn, run_underlying Tryz.underlying42, run_underlying Tryz.underlying48, typeInfo, hi, hcomp]
  simp only [binOp]
  simp [Op.equal, Op.maxDepth, h 9998]

theorem eql_not (x y : Value) (w : World) : (binOp .eql 42 (.iface 79 x) (.iface 48 y)).run Tryz.prog w = .ok (.bool false) w :=
  run_eql_iface_types 79 48 x y Tryz.underlying42 (by decide) w

theorem no89 (v : Value) (x : TypeId) (w : World) : (Instr.typeAssert (.iface 48 v) x 131 true).run Tryz.prog w = .ok (.tuple #[.nilIface, .bool false]) w := run_typeAssert_lacksB Tryz.underlying131 (by kernel_rfl) (by kernel_rfl) v x w

theorem typeOf24 (v : Value) (w : World) : (callFunc 63 #[.iface 48 v]).run Tryz.prog w = .ok (.value (.iface 122 (.agg #[.pointer (some ⟨14, 48, none⟩)]))) w := by kernel_rfl
theorem methodComparable (v : Value) (w : World) : (Go.method 346 122 v "Comparable").run Tryz.prog w = .ok (171, v) w := by kernel_rfl
theorem comparable24 (w : World) : (callFunc 171 #[.agg #[.pointer (some ⟨14, 48, none⟩)]]).run Tryz.prog w = .ok (.value (.bool true)) w := by kernel_rfl

theorem eql_nil (y : Value) (w : World) : (binOp .eql 42 .nilIface (.iface 48 y)).run Tryz.prog w = .ok (.bool false) w := run_eql_iface_nil_left w 48 y Tryz.underlying42

theorem kept_at {w w' : World} {N : Nat} {u : Value} (hb : Below w.heap.size w w') (hN : N < w.heap.size) (hc : w.cell? ⟨N, 0, none⟩ = some u) (hf : w.frozen? ⟨N, 0, none⟩ = false) : w'.cell? ⟨N, 0, none⟩ = some u ∧ w'.frozen? ⟨N, 0, none⟩ = false :=
  ⟨(hb.cell (p := ⟨N, 0, none⟩) hN).trans hc, (hb.frozen (p := ⟨N, 0, none⟩) hN).trans hf⟩

def isIn (e n : Int) : Option (List Int) → Bool
  | none => false
  | some _ => !(n == 0) && (e == n)

theorem below_three {w w' : World} {a b c : Obj} (hb : Below (w.heap.size + 1 + 1) (((w.alloc a).alloc b).alloc c) w') : Below w.heap.size w w' :=
  ((((Below.refl _ _).alloc (Nat.le_refl _) _).alloc (by simp) _).alloc (by simp; omega) _).trans (hb.mono (by omega))

end Go.Proofs.YtnmmaedngdibeaaGreatDoor.F
