/-
  A row of bytes that is nobody else's: written, copied into, kept.
-/
import Derived.Test.YtnmmaedngdibeaaGreatDoorHCells
namespace Go.Proofs.YtnmmaedngdibeaaGreatDoor.H
open Go.RowKit
set_option linter.unusedVariables false
set_option linter.unusedSimpArgs false

/-- 'g' is a block of 'w'' that 'w' has not: it begins with the bytes 'zs'; below 'w' nothing is another. -/
structure Own (w w' : World) (g : Nat) (zs : List Int) : Prop where
  below : Below w.heap.size w w'
  ge : w.heap.size ≤ g
  row : ∃ rest : List Value, w'.heap[g]? = some (.cells (cellsOf zs ++ rest).toArray 5 (0, 0))

theorem lt_of_heap {w : World} {k : Nat} {o : Obj} (h : w.heap[k]? = some o) : k < w.heap.size := (Array.getElem?_eq_some_iff.1 h).1

theorem Own.lt {w w' : World} {g : Nat} {zs : List Int} (h : Own w w' g zs) : g < w'.heap.size := by
  obtain ⟨rest, h1⟩ := h.row
  exact lt_of_heap h1

theorem addr0 (g j : Nat) : (⟨g, 0, none⟩ : Addr).add j = ⟨g, j, none⟩ := by unfold Addr.add; split <;> simp_all

theorem Own.src {w w' : World} {g : Nat} {zs : List Int} (h : Own w w' g zs) : Src w' (some ⟨g, 0, none⟩) zs := by
  obtain ⟨rest, h1⟩ := h.row
  intro _
  refine ⟨_, rfl, fun j v hv => ?_⟩
  rw [addr0]
  simp only [World.cell?, h1]
  have hj := (List.getElem?_eq_some_iff.1 hv).1
  simp only [List.getElem?_toArray]
  rw [List.getElem?_append_left hj]
  exact hv

theorem Own.cell {w w' : World} {g : Nat} {zs : List Int} (h : Own w w' g zs) (m : Nat) (hm : m < zs.length) : w'.cell? ⟨g, m, none⟩ = some (.int .u8 (zs[m]?.getD 0)) := by
  have := h.src.cell m hm
  rwa [addr0] at this

theorem Own.frozen {w w' : World} {g : Nat} {zs : List Int} (h : Own w w' g zs) (m : Nat) : w'.frozen? ⟨g, m, none⟩ = false := by
  obtain ⟨rest, h1⟩ := h.row
  simp [World.frozen?, h1]

theorem Own.set {w w' : World} {g : Nat} {zs : List Int} (h : Own w w' g zs) (m : Nat) (hm : m < zs.length) (v : Int) : Own w (w'.setCell ⟨g, m, none⟩ (.int .u8 v)) g (zs.set m v) := by
  obtain ⟨rest, h1⟩ := h.row
  refine ⟨h.below.setCell h.ge _, h.ge, rest, ?_⟩
  rw [setCell_eq_setRow w' g m _ _ _ _ h1, setRow_heap _ _ _ _ _ _ h1]
  simp only [List.setIfInBounds_toArray, cellsOf, List.map_set]
  rw [List.set_append_left _ _ (by simpa using hm)]

theorem Own.grow {w w' w2 : World} {g : Nat} {zs : List Int} (h : Own w w' g zs) (hb : Below w'.heap.size w' w2) : Own w w2 g zs := by
  obtain ⟨rest, h1⟩ := h.row
  exact ⟨h.below.trans (hb.mono h.below.size), h.ge, rest, by rw [hb.block _ h.lt]; exact h1⟩

theorem Own.newer {w w' w2 : World} {g k : Nat} {zs ys : List Int} (h : Own w w' g zs) (hb : Own w' w2 k ys) : Own w w2 k ys :=
  ⟨h.below.trans (hb.below.mono h.below.size), Nat.le_trans h.below.size hb.ge, hb.row⟩

theorem Own.since {w0 w w' : World} {g : Nat} {zs : List Int} (h : Own w w' g zs) (hb : Below w0.heap.size w0 w) : Own w0 w' g zs :=
  ⟨hb.trans (h.below.mono hb.size), Nat.le_trans hb.size h.ge, h.row⟩

theorem own_alloc (w : World) (zs : List Int) : Own w (w.alloc (.cells (row zs) 5)) w.heap.size zs :=
  ⟨(Below.refl _ w).alloc (Nat.le_refl _) _, Nat.le_refl _, [], by rw [heap_alloc_new]; simp [row_cells]⟩

theorem copy_own {w w' : World} {g : Nat} {zs : List Int} (h : Own w w' g zs) (off dLen dCap : Nat) (sp : Option Addr) (cs : List Int) (sCap : Nat) (hs : Src w' sp cs) (hd : cs.length ≤ dLen) (hf : off + cs.length ≤ zs.length) :
    ∃ w2, (∀ ty, (Builtin.copy_ #[22, 22] ty #[.slice (some ⟨g, off, none⟩) dLen dCap, .slice sp cs.length sCap]).run Tryz.prog w' = .ok (goInt cs.length) w2) ∧ Own w w2 g (splice zs off cs) ∧ (∀ k, k ≠ g → w2.heap[k]? = w'.heap[k]?) := by
  obtain ⟨rest, h1⟩ := h.row
  refine ⟨w'.setRow g (splice (cellsOf zs ++ rest) off (cellsOf cs)).toArray, fun ty => ?_, ⟨?_, h.ge, rest, ?_⟩, fun k hk => setRow_other _ _ _ _ hk⟩
  · have := run_copy_ex (P := Tryz.prog) w' 22 22 ty 5 Tryz.underlying22 inf5 (some ⟨g, off, none⟩) sp dLen dCap cs.length sCap g off (cellsOf zs ++ rest) 5 h1 (cellsOf cs) (by rw [cellsOf_length]; exact (Nat.min_eq_left hd).symm) (fun h0 => ⟨rfl, by rw [cellsOf_length] at h0; exact hs h0⟩) (by rw [List.length_append, cellsOf_length, cellsOf_length]; omega) (oneCell_bytes cs)
    rw [cellsOf_length] at this
    exact this
  · exact ⟨h.below.os, h.below.tape, h.below.output, by rw [setRow_size]; exact h.below.size, fun k hk => by rw [setRow_other _ _ _ _ (by have := h.ge; omega)]; exact h.below.block k hk⟩
  · rw [setRow_heap _ _ _ _ _ _ h1]
    congr 2
    rw [cellsOf_splice]
    unfold splice
    rw [cellsOf_length, List.take_append_of_le_length (by rw [cellsOf_length]; omega), List.drop_append_of_le_length (by rw [cellsOf_length]; omega)]
    simp

end Go.Proofs.YtnmmaedngdibeaaGreatDoor.H
