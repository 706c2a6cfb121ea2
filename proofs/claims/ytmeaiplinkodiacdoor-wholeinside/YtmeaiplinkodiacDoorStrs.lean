/-
  A list of strings that came in.
-/
import Derived.Test.YtmeaiplinkodiacDoorLaid
import Derived.Deep.Strs
namespace Go.Proofs.YtmeaiplinkodiacDoor
open Go.ChangeShapes Go.WideShapes Go.RowKit
set_option linter.unusedVariables false

theorem laidOut : laidOutB Tryd.prog = true := by kernel_rfl

theorem open_strs_in {H : Type} {enc : TypeId × Value → H} {W : World} {base : Nat} {v : Value} {d : DataW H} {p : List MemPlace} (hv : Value.okWide Tryd.prog W .any base 25 v) (h : DataW.Trod enc Tryd.prog W 0 (fun _ => true) true 25 v d p) :
    ∃ ad n cap X, v = .slice ad n cap ∧ (X.length = n ∧ n ≤ cap ∧ cap ≤ 9223372036854775807 ∧ Sl W ad X ∧ ∀ x ∈ X, x.length ≤ 9223372036854775807) := by
  obtain ⟨ad, n, cap, rfl⟩ := okWide_slice Tryd.underlying25 hv
  refine ⟨ad, n, cap, ?_⟩
  obtain ⟨fuel, hf⟩ := h
  rcases Go.Deep.open_strs Tryd.underlying25 Tryd.underlying9 (by kernel_rfl) hf with ⟨hcs, _⟩ | ⟨a, len, cp, m, Sx, hcs, hb, hl, hm, hmm, _, hcell⟩
  · simp [Value.cells] at hcs
    obtain ⟨rfl, rfl, rfl⟩ := hcs
    exact ⟨[], rfl, rfl, Nat.le_refl _, by omega, .inl rfl, fun x hx => by simp at hx⟩
  · simp [Value.cells] at hcs
    obtain ⟨rfl, rfl, rfl⟩ := hcs
    simp at hmm
    subst hmm
    unfold maxLen at hm
    refine ⟨(List.range n).map fun i => (Sx i).data.toList, rfl, by simp, hl, hm, ?_, ?_⟩
    · by_cases h0 : n = 0
      · subst h0; exact .inl (by simp)
      · obtain ⟨b, off, spot⟩ := a
        have hc := (hcell 0 (by omega)).1
        have hspot : spot = none := by simpa [Addr.add] using World.cell?_spot hc
        subst hspot
        have hblt : b < W.heap.size := by
          have := World.block_lt_of_cell? _ _ hc
          simpa [Addr.add] using this
        refine .inr ⟨b, off, rfl, hblt, fun i x hx => ?_⟩
        rw [List.getElem?_map] at hx
        obtain ⟨k, hk, rfl⟩ := Option.map_eq_some_iff.1 hx
        obtain ⟨hk1, hk2⟩ := List.getElem?_eq_some_iff.1 hk
        simp at hk1 hk2
        subst hk2
        rw [← bs_of, ← add_at]
        exact (hcell i (by omega)).1
    · intro x hx
      obtain ⟨i, hi, rfl⟩ := List.mem_map.1 hx
      rw [List.mem_range] at hi
      have := (hcell i (by omega)).2
      unfold maxLen at this
      rw [← Lib.size_eq]
      exact this

end Go.Proofs.YtmeaiplinkodiacDoor
