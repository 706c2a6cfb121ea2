/-
  The document's Decode: its start.
-/
import Derived.Test.YtojbfdlgjjghjaaDoorKK1
namespace Go.Proofs.YtojbfdlgjjghjaaDoor.K
open Go.RowKit
open Go.Lib hiding intOf
set_option linter.unusedVariables false
set_option linter.unusedSimpArgs false

def wdA : Array Value := #[.string ⟨#[111, 112, 101, 110]⟩, .string ⟨#[115, 101, 110, 100]⟩, .string ⟨#[99, 111, 109, 109, 105, 116]⟩, .string ⟨#[97, 98, 111, 114, 116]⟩, .string ⟨#[108, 105, 115, 116]⟩, .string ⟨#[115, 116, 97, 116]⟩, .string ⟨#[100, 101, 108, 101, 116, 101]⟩, .string ⟨#[103, 101, 116]⟩, .string ⟨#[112, 117, 108, 108]⟩, .string ⟨#[99, 108, 111, 115, 101]⟩, .string ⟨#[116, 105, 99, 107]⟩]
theorem wdA_at : ∀ i, i < 11 → wdA[i]? = some (.string (wd (i + 1))) := by
  intro i h
  match i, h with
  | 0, _ => rfl
  | 1, _ => rfl
  | 2, _ => rfl
  | 3, _ => rfl
  | 4, _ => rfl
  | 5, _ => rfl
  | 6, _ => rfl
  | 7, _ => rfl
  | 8, _ => rfl
  | 9, _ => rfl
  | 10, _ => rfl
/-- the row of words lies at B -/
def Wx (w : World) (B : Nat) : Prop := w.heap[B]? = some (.cells wdA 9 (0, 0))
theorem Wx.cell {w : World} {B : Nat} (h : Wx w B) (i : Nat) (hi : i < 11) : w.cell? ⟨B, i, none⟩ = some (.string (wd (i + 1))) := by rw [cell_of_row h i]; exact wdA_at i hi
theorem Rm.start (w W1 : World) (hb : Below ((w.alloc (.cells (Ak.zero.rc []) 30)).alloc (.cells wdA 9)).heap.size ((w.alloc (.cells (Ak.zero.rc []) 30)).alloc (.cells wdA 9)) W1) :
    Rm w (W1.alloc (.cells (Ak.zero.rc []) 30)) W1.heap.size Ak.zero [] ∧ Wx (W1.alloc (.cells (Ak.zero.rc []) 30)) (w.heap.size + 1) ∧ w.heap.size + 1 < W1.heap.size := by
  have r0 : Rx (w.alloc (.cells (Ak.zero.rc []) 30)) w.heap.size (Ak.zero.rc []) := heap_alloc_new w _
  have z0 : (w.alloc (.cells (Ak.zero.rc []) 30)).heap.size = w.heap.size + 1 := by simp
  have b0 : Below w.heap.size w (w.alloc (.cells (Ak.zero.rc []) 30)) := (Below.refl _ w).alloc (Nat.le_refl _) _
  generalize w.alloc (.cells (Ak.zero.rc []) 30) = wa at *
  have r1 : (wa.alloc (.cells wdA 9)).heap[wa.heap.size]? = some (.cells wdA 9 (0, 0)) := heap_alloc_new wa _
  have b1 : Below wa.heap.size wa (wa.alloc (.cells wdA 9)) := (Below.refl _ wa).alloc (Nat.le_refl _) _
  have z1 : (wa.alloc (.cells wdA 9)).heap.size = wa.heap.size + 1 := by simp
  generalize wa.alloc (.cells wdA 9) = wb at *
  have hs := hb.size
  have b2 : Below W1.heap.size W1 (W1.alloc (.cells (Ak.zero.rc []) 30)) := (Below.refl _ W1).alloc (Nat.le_refl _) _
  have r2 : Rx (W1.alloc (.cells (Ak.zero.rc []) 30)) W1.heap.size (Ak.zero.rc []) := heap_alloc_new W1 _
  have c1 := b0.trans (b1.mono b0.size)
  have c2 := c1.trans (hb.mono c1.size)
  have c3 := c2.trans (b2.mono c2.size)
  refine ⟨⟨c3, by omega, ((r0.below b1 (by omega)).below hb (by omega)).below b2 (by omega), r2⟩, ?_, by omega⟩
  rw [← z0]
  exact (b2.block _ (by omega)).trans ((hb.block _ (by omega)).trans r1)
end Go.Proofs.YtojbfdlgjjghjaaDoor.K
