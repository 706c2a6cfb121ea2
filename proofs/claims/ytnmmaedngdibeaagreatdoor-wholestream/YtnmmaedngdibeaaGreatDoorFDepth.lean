/-
  Contracts: errors.Unwrap, fault.hasPlace, fault.Depth, over errors in so many places.
-/
import Derived.Test.YtnmmaedngdibeaaGreatDoorFGuard
import Derived.Deep.LoopGhost
import Derived.WalkLawsBesides
namespace Go.Proofs.YtnmmaedngdibeaaGreatDoor.F
open Go.RowKit

theorem has65 (v : Value) (x : TypeId) (w : World) : (Instr.typeAssert (.iface 79 v) x 130 true).run Tryz.prog w = .ok (.tuple #[.iface 79 v, .bool true]) w := run_typeAssert_hasB Tryz.underlying130 (by kernel_rfl) v x w
theorem no65 (v : Value) (x : TypeId) (w : World) : (Instr.typeAssert (.iface 48 v) x 130 true).run Tryz.prog w = .ok (.tuple #[.nilIface, .bool false]) w := run_typeAssert_lacksB Tryz.underlying130 (by kernel_rfl) (by kernel_rfl) v x w
theorem is36 (p : Int) (v : Value) (x : TypeId) (w : World) : (Instr.typeAssert (.iface 79 (.agg #[.int .i64 p, v])) x 79 true).run Tryz.prog w = .ok (.tuple #[.agg #[.int .i64 p, v], .bool true]) w := by kernel_rfl
theorem not36 (e : Int) (x : TypeId) (w : World) : (Instr.typeAssert (.iface 48 (.int .i64 e)) x 79 true).run Tryz.prog w = .ok (.tuple #[.agg #[.int .i64 0, .nilIface], .bool false]) w := by kernel_rfl
theorem methodUnwrap (v : Value) (w : World) : (Go.method 346 79 v "Unwrap").run Tryz.prog w = .ok (165, v) w := by kernel_rfl

theorem unwrap_at (p : Int) (v : Value) (w : World) : Calls Tryz.prog 165 #[.agg #[.int .i64 p, v]] w fun e w' => e = .returned v ∧ w' = w.alloc (.cells #[.int .i64 p, v] 79) := by
  go_enter Tryz.func165, Tryz.ntmps165
  go_wp2
  go_ret
  exact ⟨rfl, rfl⟩

theorem chain_form (e : Int) (l : List Int) : ∃ t x, chain e l = .iface t x := by
  cases l with
  | nil => exact ⟨_, _, rfl⟩
  | cons p l => exact ⟨_, _, rfl⟩

def link (e : Int) : Option (List Int) → Value
  | none => .nilIface
  | some l => chain e l
def rem : Option (List Int) → Nat
  | none => 0
  | some l => l.length + 1
def left : Option (List Int) → Nat
  | none => 0
  | some l => l.length

theorem count_more {N : Nat} {w wr : World} {u : Value} (hb : Below N w wr) (hN : N < wr.heap.size) (hc : wr.cell? ⟨N, 0, none⟩ = some u) (hf : wr.frozen? ⟨N, 0, none⟩ = false) (v : Value) (o : Obj) :
    (((wr.setCell ⟨N, 0, none⟩ v).alloc o).alloc o).cell? ⟨N, 0, none⟩ = some v ∧ (((wr.setCell ⟨N, 0, none⟩ v).alloc o).alloc o).frozen? ⟨N, 0, none⟩ = false ∧ Below N w (((wr.setCell ⟨N, 0, none⟩ v).alloc o).alloc o) ∧ N < (((wr.setCell ⟨N, 0, none⟩ v).alloc o).alloc o).heap.size := by
  have hs : (wr.setCell ⟨N, 0, none⟩ v).heap.size = wr.heap.size := by simp
  refine ⟨?_, ?_, ((hb.setCell (Nat.le_refl _) _).alloc (by rw [hs]; omega) _).alloc (by simp; omega) _, by simp; omega⟩
  · rw [World.cell?_alloc_lt _ _ _ (by simp; omega), World.cell?_alloc_lt _ _ _ (by rw [hs]; exact hN), World.cell?_setCell_same _ _ _ hc]
  · rw [World.frozen?_alloc_old _ _ _ (by simp; omega), World.frozen?_alloc_old _ _ _ (by rw [hs]; exact Nat.ne_of_lt hN)]
    simpa using hf

theorem link_form (e : Int) (o : Option (List Int)) : link e o = .nilIface ∨ ∃ t x, link e o = .iface t x := by
  cases o with
  | none => exact .inl rfl
  | some l => exact .inr (chain_form e l)

theorem below_two {w w' : World} {a b : Obj} (hb : Below (w.heap.size + 1) ((w.alloc a).alloc b) w') : Below w.heap.size w w' :=
  (((Below.refl _ _).alloc (Nat.le_refl _) _).alloc (by simp) _).trans (hb.mono (by omega))

end Go.Proofs.YtnmmaedngdibeaaGreatDoor.F
