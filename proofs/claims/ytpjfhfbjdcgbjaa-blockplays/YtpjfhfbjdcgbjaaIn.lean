/-
  What is known of a slice of integers that came in.
-/
import Derived.Test.YtpjfhfbjdcgbjaaHead
namespace Go.Proofs.Ytpjfhfbjdcgbjaa
open Go.RowKit
set_option linter.unusedVariables false

/-- nil; or a row of 'cap' cells, the numbers 'zs', of which the first 'len' are its elements -/
def IsRow (k : IntKind) (w : World) (a : Option Addr) (len cap : Nat) (zs : List Int) : Prop :=
  (a = none ∧ len = 0 ∧ cap = 0 ∧ zs = []) ∨
  ∃ x, a = some x ∧ len ≤ cap ∧ cap ≤ maxLen ∧ zs.length = cap ∧ (∀ i, i < zs.length → w.cell? (x.add i) = some (.int k (zs.getD i 0))) ∧ ∀ n ∈ zs, (Lit.int k n).wf = true

theorem row_src {w : World} {a : Option Addr} {len cap : Nat} {zs : List Int} (h : IsRow .u8 w a len cap zs) :
    Src w a (zs.take len) ∧ (zs.take len).length = len ∧ len ≤ cap ∧ cap ≤ 9223372036854775807 := by
  rcases h with ⟨rfl, rfl, rfl, rfl⟩ | ⟨x, rfl, h1, h2, h3, h4, h5⟩
  · exact ⟨fun h => by simp at h, by simp, by omega, by omega⟩
  · refine ⟨fun _ => ⟨x, rfl, fun j v hv => ?_⟩, by simp; omega, h1, by unfold maxLen at h2; omega⟩
    simp only [cellsOf, List.getElem?_map, Option.map_eq_some_iff] at hv
    obtain ⟨z, hz, rfl⟩ := hv
    rw [List.getElem?_take] at hz
    split at hz
    · have hl : j < zs.length := (List.getElem?_eq_some_iff.1 hz).1
      rw [h4 j hl]
      simp [hz]
    · cases hz

theorem Src.grow {w w' : World} {a : Option Addr} {zs : List Int} (h : Src w a zs) (hb : Below w.heap.size w w') : Src w' a zs := by
  intro h0
  obtain ⟨ad, h1, h2⟩ := h h0
  subst h1
  have hlt := h.lt h0
  exact (h.moved (w' := w') fun ad' e => by cases e; exact hb.block _ hlt) h0

theorem Src.alloc {w : World} {a : Option Addr} {zs : List Int} (h : Src w a zs) (o : Obj) : Src (w.alloc o) a zs := h.grow ((Below.refl _ w).alloc (Nat.le_refl _) o)

theorem part_splice (L : List Int) (k : Nat) (zs : List Int) (h : k + zs.length ≤ L.length) : part (splice L k zs) k zs.length = zs := by
  unfold part splice
  have e : (L.take k).length = k := by simp; omega
  rw [List.drop_append_of_le_length (by omega), List.drop_of_length_le (by omega)]
  simp

theorem gone_none (id : Int) : Gone [Slot.none] id := by
  intro i s e hs
  match i, hs with
  | 0, hs => simp at hs; subst hs; rfl
  | i + 1, hs => simp at hs

end Go.Proofs.Ytpjfhfbjdcgbjaa
