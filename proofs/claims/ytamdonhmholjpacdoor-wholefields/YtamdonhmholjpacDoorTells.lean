/-
  The head of each law: 'tells' returns true where errors.errorType is as the program's text lays it.
-/
import Derived.Test.YtamdonhmholjpacDoorCode
namespace Go.Proofs.YtamdonhmholjpacDoor
open Go.RowKit

/-- From w on nothing that was there has turned, and errors.errorType is as it was laid. -/
def St (w wr : World) : Prop := Laid wr ∧ Below w.heap.size w wr

theorem St.start {w : World} (h : Laid w) : St w w := ⟨h, Below.refl _ _⟩
theorem St.step {w a b : World} (h : St w a) (hb : Below a.heap.size a b) : St w b := ⟨h.1.below hb, h.2.trans (hb.mono h.2.size)⟩

theorem neq_nil (t : TypeId) (x : Value) (w : World) : (binOp .neq 29 (.iface t x) .nilIface).run Tryd.prog w = .ok (.bool true) w := by
  have h : ∀ d : Nat, (Op.equalIn (d + 1) 29 (.iface t x) .nilIface).run Tryd.prog w = .ok false w := fun d => by simp [Op.equalIn, run_underlying Tryd.underlying29]
  simp only [binOp]
  simp [Op.equal, Op.maxDepth, h 9999]

end Go.Proofs.YtamdonhmholjpacDoor
