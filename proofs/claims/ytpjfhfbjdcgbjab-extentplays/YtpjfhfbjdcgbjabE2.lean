/-
  ExtentPlays: where its code stands.
-/
import Derived.Test.YtpjfhfbjdcgbjabE1
namespace Go.Proofs.Ytpjfhfbjdcgbjab
open Go.RowKit
set_option linter.unusedVariables false
set_option linter.unusedSimpArgs false

def headReg : Code → Option Nat
  | .region n _ _ => some n
  | .seq a _ => headReg a
  | .block _ c => headReg c
  | .scope c => headReg c
  | _ => none
/-- the code that begins with a region, wherever it stands -/
def findAt (n : Nat) : Code → Option Code
  | .seq a b => if headReg a = some n then some (.seq a b) else (findAt n a).or (findAt n b)
  | .cond _ a b => (findAt n a).or (findAt n b)
  | .block _ c => findAt n c
  | .scope c => findAt n c
  | .loop c => findAt n c
  | _ => none

theorem arm0_is : (Try.f3.body.bind (findAt 19)).isSome = true := by kernel_rfl
theorem arm1_is : (Try.f3.body.bind (findAt 26)).isSome = true := by kernel_rfl
theorem arm2_is : (Try.f3.body.bind (findAt 31)).isSome = true := by kernel_rfl
theorem arm3_is : (Try.f3.body.bind (findAt 35)).isSome = true := by kernel_rfl

theorem two10 {w : World} {g : Nat} {C : Array Value} {t : TypeId} (h : w.heap[g]? = some (.cells C t (0, 0))) (i : Nat) : w.cell? ⟨g, i, none⟩ = C[i]? := by
  unfold World.cell?
  simp [h]

theorem run_str (w : World) (s : ByteArray) (a b : Nat) (h1 : a ≤ b) (h2 : b ≤ s.size) : (Instr.sliceAt 9 (.string s) (some (.int .i64 (a : Int))) (some (.int .i64 (b : Int))) none).run Try.prog w = .ok (.string (s.extract a b)) w := by
  rw [run_sliceAt_string w 9 _ _ _ _ Try.underlying9]
  have e1 : ((a : Int)).toNat = a := rfl
  have i1 : (0 : Int) ≤ (a : Int) := by omega
  have i2 : (0 : Int) ≤ (b : Int) := by omega
  have i3 : (a : Int) ≤ (b : Int) := by omega
  have i4 : (b : Int) ≤ (s.size : Int) := by omega
  simp [Instr.slice, run_underlying Try.underlying9, Instr.sliceBounds, run_sliceBound, sliced, *]

theorem Src.moved' {w w' : World} {a : Option Addr} {zs : List Int} (h : Src w a zs) (hb : 0 < zs.length → ∀ ad, a = some ad → w'.heap[ad.block]? = w.heap[ad.block]?) : Src w' a zs := fun h0 => h.moved (hb h0) h0

theorem below_dN (w : World) (N : Nat) : Below w.heap.size w (w.drewN N) := ⟨rfl, rfl, rfl, Nat.le_refl _, fun _ _ => rfl⟩

theorem Src.drewN {w : World} {a : Option Addr} {zs : List Int} (h : Src w a zs) (N : Nat) : Src (w.drewN N) a zs := fun h0 => by
  obtain ⟨ad, h1, h2⟩ := h h0
  exact ⟨ad, h1, fun j v hv => by rw [← h2 j v hv]; simp⟩

theorem cell_keeps {w w' : World} {p S F : Nat} (hk : Keeps p S F w w') {a : Addr} {v : Value} (h : w.cell? a = some v) (h1 : a.block ≠ p) (h2 : a.block ≠ S) (h3 : a.block ≠ F) : w'.cell? a = some v := by
  rw [← h]
  exact World.cell?_of_block (hk.block _ (World.block_lt_of_cell? w _ h) h1 h2 h3)

end Go.Proofs.Ytpjfhfbjdcgbjab
