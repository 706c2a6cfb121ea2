/-
  'Ar w p S F ss fr': at p lies an Arena whose slots (at S) are 'ss' and whose free ones (at F) are 'fr'. 'Keeps p S F w w'': nothing else has turned.
-/
import Derived.Test.YtpjfhfbjdcgbjaaPlain
import Derived.Below
namespace Go.Proofs.Ytpjfhfbjdcgbjaa
open Go.RowKit
set_option linter.unusedVariables false
set_option linter.unusedSimpArgs false

structure Ar (w : World) (p S F : Nat) (ss : List Slot) (fr : List Nat) : Prop where
  head : w.heap[p]? = some (.cells #[.slice (some ⟨S, 0, none⟩) ss.length ss.length, .slice (some ⟨F, 0, none⟩) fr.length ss.length] 53 (0, 0))
  row : w.heap[S]? = some (.cells (rowCells ss).toArray 55 (0, 0))
  list : ∃ junk, w.heap[F]? = some (.cells (idCells fr ++ junk).toArray 3 (0, 0)) ∧ fr.length + junk.length = ss.length
  pS : p ≠ S
  pF : p ≠ F
  SF : S ≠ F
  good : Good ss fr

structure Keeps (p S F : Nat) (w w' : World) : Prop where
  os : w'.os = w.os
  tape : w'.tape = w.tape
  output : w'.output = w.output
  size : w.heap.size ≤ w'.heap.size
  block : ∀ k, k < w.heap.size → k ≠ p → k ≠ S → k ≠ F → w'.heap[k]? = w.heap[k]?

theorem Keeps.refl (p S F : Nat) (w : World) : Keeps p S F w w := ⟨rfl, rfl, rfl, Nat.le_refl _, fun _ _ _ _ _ => rfl⟩
theorem Keeps.trans {p S F : Nat} {a b c : World} (h : Keeps p S F a b) (k : Keeps p S F b c) : Keeps p S F a c :=
  ⟨k.os.trans h.os, k.tape.trans h.tape, k.output.trans h.output, Nat.le_trans h.size k.size, fun i hi h1 h2 h3 => (k.block i (Nat.lt_of_lt_of_le hi h.size) h1 h2 h3).trans (h.block i hi h1 h2 h3)⟩
theorem Keeps.below {p S F B : Nat} {w w' : World} (h : Keeps p S F w w') (hB : B ≤ w.heap.size) (h1 : B ≤ p) (h2 : B ≤ S) (h3 : B ≤ F) : Below B w w' :=
  ⟨h.os, h.tape, h.output, h.size, fun k hk => h.block k (by omega) (by omega) (by omega) (by omega)⟩
theorem Keeps.alloc {p S F : Nat} {a w : World} (h : Keeps p S F a w) (o : Obj) : Keeps p S F a (w.alloc o) :=
  h.trans ⟨rfl, rfl, rfl, by simp, fun k hk _ _ _ => Below.heap_alloc _ _ _ hk⟩
theorem Keeps.setCell {p S F : Nat} {a w : World} (h : Keeps p S F a w) {x : Addr} (hp : x.block = p ∨ x.block = S ∨ x.block = F) (u : Value) : Keeps p S F a (w.setCell x u) :=
  h.trans ⟨rfl, rfl, rfl, by simp [World.setCell], fun k _ _ _ _ => Below.heap_setCell _ _ _ _ (by omega)⟩
theorem Keeps.setRow {p S F : Nat} {a w : World} (h : Keeps p S F a w) {g : Nat} (hp : g = p ∨ g = S ∨ g = F) (u : Array Value) : Keeps p S F a (w.setRow g u) :=
  h.trans ⟨rfl, rfl, rfl, by simp [World.setRow], fun k _ _ _ _ => setRow_other _ _ _ _ (by omega)⟩
theorem Keeps.drew {p S F : Nat} {a w : World} (h : Keeps p S F a w) : Keeps p S F a w.drew := ⟨h.os, h.tape, h.output, h.size, h.block⟩

/-- an arena is one wherever its three blocks are as they were -/
theorem Ar.moved {w w' : World} {p S F : Nat} {ss : List Slot} {fr : List Nat} (h : Ar w p S F ss fr) (h1 : w'.heap[p]? = w.heap[p]?) (h2 : w'.heap[S]? = w.heap[S]?) (h3 : w'.heap[F]? = w.heap[F]?) : Ar w' p S F ss fr := by
  obtain ⟨j, hj, hl⟩ := h.list
  exact ⟨h1.trans h.head, h2.trans h.row, ⟨j, h3.trans hj, hl⟩, h.pS, h.pF, h.SF, h.good⟩

theorem lt_of_heap {w : World} {k : Nat} {o : Obj} (h : w.heap[k]? = some o) : k < w.heap.size := (Array.getElem?_eq_some_iff.1 h).1
theorem Ar.lt {w : World} {p S F : Nat} {ss : List Slot} {fr : List Nat} (h : Ar w p S F ss fr) : p < w.heap.size ∧ S < w.heap.size ∧ F < w.heap.size := by
  obtain ⟨j, hj, hl⟩ := h.list
  exact ⟨lt_of_heap h.head, lt_of_heap h.row, lt_of_heap hj⟩

theorem Ar.alloc {w : World} {p S F : Nat} {ss : List Slot} {fr : List Nat} (h : Ar w p S F ss fr) (o : Obj) : Ar (w.alloc o) p S F ss fr := by
  obtain ⟨a, b, c⟩ := h.lt
  exact h.moved (Below.heap_alloc _ _ _ a) (Below.heap_alloc _ _ _ b) (Below.heap_alloc _ _ _ c)
theorem Ar.drew {w : World} {p S F : Nat} {ss : List Slot} {fr : List Nat} (h : Ar w p S F ss fr) : Ar w.drew p S F ss fr := h.moved rfl rfl rfl

section
variable {w : World} {p S F : Nat} {ss : List Slot} {fr : List Nat} (h : Ar w p S F ss fr)
include h
theorem Ar.slots : w.cell? ⟨p, 0, none⟩ = some (.slice (some ⟨S, 0, none⟩) ss.length ss.length) := by simp [World.cell?, h.head]
theorem Ar.free : w.cell? ⟨p, 1, none⟩ = some (.slice (some ⟨F, 0, none⟩) fr.length ss.length) := by simp [World.cell?, h.head]
theorem Ar.holds {i : Nat} {s : Slot} (hi : ss[i]? = some s) : w.cell? ⟨S, i * 65 + 64, none⟩ = some (.int .i64 (s.holds : Int)) := by
  have := row_holds ss i s hi h.good.whole
  simp only [World.cell?, h.row]
  simpa [Nat.mul_comm] using this
theorem Ar.frozen (x : Addr) (hx : x.block = p ∨ x.block = S ∨ x.block = F) : w.frozen? x = false := by
  obtain ⟨j, hj, hl⟩ := h.list
  rcases hx with e | e | e
  · simp [World.frozen?, e, h.head]
  · simp [World.frozen?, e, h.row]
  · simp [World.frozen?, e, hj]
end

end Go.Proofs.Ytpjfhfbjdcgbjaa
