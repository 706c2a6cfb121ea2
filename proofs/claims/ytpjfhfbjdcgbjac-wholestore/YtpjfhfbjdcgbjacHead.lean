/-
  The laws' head 'keeps': true, whatever the world; below what was there nothing turns.
-/
import Derived.Test.YtpjfhfbjdcgbjacWrap
import Derived.Lib.SlBytesConst
namespace Go.Proofs.Ytpjfhfbjdcgbjac
open Go.RowKit
set_option linter.unusedVariables false
set_option linter.unusedSimpArgs false

theorem src_mark_at (w : World) (zs : List Int) (t : TypeId) (m : Nat × Nat) (C : Array Value) (h : C = (cellsOf zs).toArray) : Src (w.alloc (.cells C t m)) (some ⟨w.heap.size, 0, none⟩) zs := by
  subst h; exact src_row zs [] (heap_alloc_new w _)

theorem blank_inv (n : Nat) (fr : List Nat) (h : Good (blank n) fr) : Inv (blank n) fr [] := inv_new n _ _ h fun s hs => by
  have := List.eq_of_mem_replicate hs
  rw [this]; rfl

theorem tot_le (M : Nat) : ∀ (cs : List Ct) (z : Int), (∀ c ∈ cs, c.1.length ≤ M) → tot cs z ≤ cs.length * M
  | [], z, _ => by simp [tot]
  | c :: r, z, h => by
    have h1 := tot_le M r z (fun d hd => h d (by simp [hd]))
    have h2 : c.1.count z ≤ c.1.length := List.count_le_length
    have h3 := h c (by simp)
    simp only [tot, List.length_cons, Nat.add_mul, Nat.one_mul]
    omega

theorem Inv.small {ss : List Slot} {fr : List Nat} {cs : List Ct} (h : Inv ss fr cs) (M : Nat) (hM : ∀ c ∈ cs, c.1.length ≤ M) : ∀ s ∈ ss, s.holds ≤ cs.length * M := by
  intro s hs
  obtain ⟨i, hi, e⟩ := List.getElem_of_mem hs
  have := h.acc i s (by rw [List.getElem?_eq_getElem hi, e])
  rw [this]
  exact tot_le M cs _ hM

theorem down_len (n : Nat) : (down n).length = n := by simp [down]

theorem blank_un (n : Nat) : Un (blank n) := fun s hs => by
  have := List.eq_of_mem_replicate hs
  rw [this]; simp [Slot.none]

/-- a store of two cells into a variable -/
theorem two_cells {w : World} {g : Nat} {x y : Value} (h : w.heap[g]? = some (.cells #[x, y] 29 (0, 0))) : w.cell? ⟨g, 0, none⟩ = some x ∧ w.cell? ⟨g, 1, none⟩ = some y ∧ w.frozen? ⟨g, 0, none⟩ = false ∧ w.frozen? ⟨g, 1, none⟩ = false :=
  ⟨by simp [World.cell?, h], by simp [World.cell?, h], by simp [World.frozen?, h], by simp [World.frozen?, h]⟩

theorem two_set {w : World} {g : Nat} {x y : Value} (h : w.heap[g]? = some (.cells #[x, y] 29 (0, 0))) (u t : Value) : ((w.setCell ⟨g, 0, none⟩ u).setCell ⟨g, 1, none⟩ t).heap[g]? = some (.cells #[u, t] 29 (0, 0)) ∧ ∀ k, k ≠ g → ((w.setCell ⟨g, 0, none⟩ u).setCell ⟨g, 1, none⟩ t).heap[k]? = w.heap[k]? :=
  ⟨by rw [setCell_eq_setRow w _ 0 _ _ _ _ h, setCell_eq_setRow _ _ 1 _ _ _ _ (setRow_heap _ _ _ _ _ _ h), setRow_heap _ _ _ _ _ _ (setRow_heap _ _ _ _ _ _ h)]; simp, fun k hk => by rw [Below.heap_setCell _ _ _ _ hk, Below.heap_setCell _ _ _ _ hk]⟩

end Go.Proofs.Ytpjfhfbjdcgbjac
