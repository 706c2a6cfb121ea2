/-
  For head.Decode: what each world on the way keeps; the text of a field at integers.
-/
import Derived.Test.YtnmmaedngdibeaaGreatDoorHDec0
import Derived.Deep.DeepCutAuto
import Derived.Deep.RegionHeld3
namespace Go.Proofs.YtnmmaedngdibeaaGreatDoor.H
open Go.RowKit
set_option linter.unusedVariables false

/-- what each world on the way keeps of the block that is read -/
structure Kp (w1 : World) (W : World) : Prop where
  b : Below w1.heap.size w1 W

theorem Kp.drew {w1 W : World} (h : Kp w1 W) : Kp w1 W.drew := ⟨h.b.drew⟩
theorem Kp.alloc {w1 W : World} (h : Kp w1 W) (o : Obj) : Kp w1 (W.alloc o) := ⟨h.b.alloc h.b.size o⟩
theorem Kp.then {w1 W W' : World} (h : Kp w1 W) (b : Below W.heap.size W W') : Kp w1 W' := ⟨h.b.trans (b.mono h.b.size)⟩

theorem zrow_cells {w : World} {g : Nat} (h : w.heap[g]? = some (.cells hzero 55 (0, 0))) : w.cell? ⟨g, 0, none⟩ = some (.int .i64 0) ∧ w.cell? ⟨g, 1, none⟩ = some (.string ⟨#[]⟩) ∧ w.cell? ⟨g, 2, none⟩ = some (.string ⟨#[]⟩) ∧ w.cell? ⟨g, 3, none⟩ = some (.string ⟨#[]⟩) ∧ w.cell? ⟨g, 4, none⟩ = some (.string ⟨#[]⟩) ∧ w.cell? ⟨g, 5, none⟩ = some (.string ⟨#[]⟩) ∧ w.cell? ⟨g, 6, none⟩ = some (.int .u8 0) ∧ w.cell? ⟨g, 7, none⟩ = some (.int .i64 0) ∧ w.cell? ⟨g, 8, none⟩ = some (.int .i64 0) ∧ w.cell? ⟨g, 9, none⟩ = some (.int .i64 0) ∧ w.cell? ⟨g, 10, none⟩ = some (.int .i64 0) ∧ w.cell? ⟨g, 11, none⟩ = some (.int .i64 0) ∧ w.frozen? ⟨g, 0, none⟩ = false ∧ w.frozen? ⟨g, 1, none⟩ = false ∧ w.frozen? ⟨g, 2, none⟩ = false ∧ w.frozen? ⟨g, 3, none⟩ = false ∧ w.frozen? ⟨g, 4, none⟩ = false ∧ w.frozen? ⟨g, 5, none⟩ = false ∧ w.frozen? ⟨g, 6, none⟩ = false ∧ w.frozen? ⟨g, 7, none⟩ = false ∧ w.frozen? ⟨g, 8, none⟩ = false ∧ w.frozen? ⟨g, 9, none⟩ = false ∧ w.frozen? ⟨g, 10, none⟩ = false ∧ w.frozen? ⟨g, 11, none⟩ = false := by
  simp [World.cell?, World.frozen?, h, hzero]

/-- a header's block stays, from one world to the next -/
def Stay (W W' : World) : Prop := ∀ (g : Nat) (cs : Array Value), W.heap[g]? = some (.cells cs 55 (0, 0)) → W'.heap[g]? = some (.cells cs 55 (0, 0))
theorem Stay.of {W W' : World} (b : Below W.heap.size W W') : Stay W W' := fun g cs h => by rw [b.block g (lt_of_heap h)]; exact h

def tx (zs : List Int) (c d : Int) : ByteArray := strOf (textL zs c.toNat d.toNat)
theorem tx_w (ad : Addr) (cap : Nat) (zs : List Int) (c d : Int) (w1 W : World) (hb : Hid (AllB zs)) (hl : Hid (zs.length = 512)) (hc : 512 ≤ cap) (hc2 : cap ≤ 9223372036854775807) (hs : Src W (some ad) zs) (k : Kp w1 W) (h : 0 ≤ c ∧ c ≤ d ∧ d ≤ 512 ∧ c < 512) :
    Calls Tryz.prog 76 #[.slice (some ad) 512 cap, .agg #[.int .i64 c, .int .i64 d]] W fun e w' => e = .returned (.string (tx zs c d)) ∧ Kp w1 w' ∧ Stay W w' := by
  have := textAt_w ad cap zs c.toNat d.toNat W hb hl hc hc2 hs (by omega) (by omega) (by omega)
  rw [Int.toNat_of_nonneg (by omega), Int.toNat_of_nonneg (by omega)] at this
  exact this.mono fun e w' h => ⟨h.1, k.then h.2, Stay.of h.2⟩

end Go.Proofs.YtnmmaedngdibeaaGreatDoor.H
