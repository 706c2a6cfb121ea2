/-
  Lists of strings and of integers that came in.
-/
import Derived.Test.YtojnniacmmcddaaDoorWa
import Derived.Test.YtojnniacmmcddaaDoorV1
import Derived.Deep.Strs
namespace Go.Proofs.YtojnniacmmcddaaDoor
open Go.ChangeShapes Go.WideShapes Go.RowKit
set_option linter.unusedVariables false

set_option maxRecDepth 100000 in
theorem open_strs_in {H : Type} {enc : TypeId × Value → H} {W : World} {base : Nat} {v : Value} {d : DataW H} {p : List MemPlace} (hv : Value.okWide Tryd.prog W .any base 23 v) (h : DataW.Trod enc Tryd.prog W 0 (fun _ => true) true 23 v d p) :
    ∃ ad n cap X, v = .slice ad n cap ∧ (X.length = n ∧ n ≤ cap ∧ cap ≤ 9223372036854775807 ∧ Sl W ad X ∧ ∀ x ∈ X, x.length ≤ 9223372036854775807) := by
  obtain ⟨ad, n, cap, rfl⟩ := okWide_slice Tryd.underlying23 hv
  refine ⟨ad, n, cap, ?_⟩
  obtain ⟨fuel, hf⟩ := h
  rcases Go.Deep.open_strs Tryd.underlying23 Tryd.underlying9 (by kernel_rfl) hf with ⟨hcs, _⟩ | ⟨a, len, cp, m, Sx, hcs, hb, hl, hm, hmm, _, hcell⟩
  · simp [Value.cells] at hcs
    obtain ⟨rfl, rfl, rfl⟩ := hcs
    exact ⟨[], rfl, rfl, Nat.le_refl _, by omega, .inl rfl, fun x hx => by simp at hx⟩
  · simp [Value.cells] at hcs
    obtain ⟨rfl, rfl, rfl⟩ := hcs
    simp at hmm
    subst hmm
    unfold maxLen at hm
    refine ⟨(List.range n).map fun i => (Sx i).data.toList, rfl, by simp, hl, hm, ?_, ?_⟩
    · by_cases h0 : n = 0
      · subst h0; exact .inl (by simp)
      · obtain ⟨b, off, spot⟩ := a
        have hc := (hcell 0 (by omega)).1
        have hspot : spot = none := by simpa [Addr.add] using World.cell?_spot hc
        subst hspot
        have hblt : b < W.heap.size := by
          have := World.block_lt_of_cell? _ _ hc
          simpa [Addr.add] using this
        refine .inr ⟨b, off, rfl, hblt, fun i x hx => ?_⟩
        rw [List.getElem?_map] at hx
        obtain ⟨k, hk, rfl⟩ := Option.map_eq_some_iff.1 hx
        obtain ⟨hk1, hk2⟩ := List.getElem?_eq_some_iff.1 hk
        simp at hk1 hk2
        subst hk2
        rw [← bs_of, ← add_at]
        exact (hcell i (by omega)).1
    · intro x hx
      obtain ⟨i, hi, rfl⟩ := List.mem_map.1 hx
      rw [List.mem_range] at hi
      have := (hcell i (by omega)).2
      unfold maxLen at this
      rw [← Lib.size_eq]
      exact this

/-- integers at an address -/
def Il (w : World) (ad : Option Addr) (ks : List Int) : Prop := ks = [] ∨ ∃ b o, ad = some ⟨b, o, none⟩ ∧ b < w.heap.size ∧ ∀ i x, ks[i]? = some x → w.cell? ⟨b, o + i, none⟩ = some (.int .i64 x)

set_option maxRecDepth 100000 in
theorem open_ints_in {H : Type} {enc : TypeId × Value → H} {W : World} {base : Nat} {v : Value} {d : DataW H} {p : List MemPlace} (hv : Value.okWide Tryd.prog W .any base 22 v) (h : DataW.Trod enc Tryd.prog W 0 (fun _ => true) true 22 v d p) :
    ∃ ad n cap ks, v = .slice ad n cap ∧ (ks.length = n ∧ n ≤ cap ∧ cap ≤ 9223372036854775807 ∧ Il W ad ks) := by
  obtain ⟨ad, n, cap, rfl⟩ := okWide_slice Tryd.underlying22 hv
  refine ⟨ad, n, cap, ?_⟩
  obtain ⟨fuel, hf⟩ := h
  rcases open_ints Tryd.underlying22 Tryd.underlying3 (by kernel_rfl) hf with ⟨hcs, _⟩ | ⟨a, l, c, zs, hcs, _, hl, hm, hz, _, hcell, hwz⟩
  · simp [Value.cells] at hcs
    obtain ⟨rfl, rfl, rfl⟩ := hcs
    exact ⟨[], rfl, rfl, Nat.le_refl _, by omega, .inl rfl⟩
  · simp [Value.cells] at hcs
    obtain ⟨rfl, rfl, rfl⟩ := hcs
    simp at hz
    unfold maxLen at hm
    refine ⟨zs.take n, rfl, by rw [List.length_take]; omega, hl, hm, ?_⟩
    by_cases h0 : n = 0
    · subst h0; exact .inl (by simp)
    · obtain ⟨b, off, spot⟩ := a
      have hc := hcell 0 (by omega)
      have hspot : spot = none := by simpa [Addr.add] using World.cell?_spot hc
      subst hspot
      have hblt : b < W.heap.size := by
        have := World.block_lt_of_cell? _ _ hc
        simpa [Addr.add] using this
      refine .inr ⟨b, off, rfl, hblt, fun i x hx => ?_⟩
      rw [List.getElem?_take] at hx
      split at hx
      · have hi := (List.getElem?_eq_some_iff.1 hx).1
        have := hcell i hi
        rw [add_at] at this
        rw [this, List.getD_eq_getElem?_getD, hx]
        rfl
      · cases hx

end Go.Proofs.YtojnniacmmcddaaDoor
