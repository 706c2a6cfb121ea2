/-
  Bytes and numbers that came in.
-/
import Derived.Test.YtnmmaedngdibeaaGreatDoorLP
import Derived.Test.YtnmmaedngdibeaaGreatDoorRall
import Derived.OpenShut
import Derived.ShutString
import Derived.ChangeOld
namespace Go.Proofs.YtnmmaedngdibeaaGreatDoor
open Go.ChangeShapes Go.WideShapes Go.RowKit
set_option linter.unusedVariables false

set_option maxRecDepth 100000 in
theorem open_bytes_in {H : Type} {enc : TypeId × Value → H} {W : World} {b b0 : Nat} {sp : Nat → Bool} {held : Bool} {v : Value} {d : DataW H} {ps : List MemPlace} (hval : Value.okWide Tryz.prog W .any b0 22 v) (hd : DataW.Trod enc Tryz.prog W b sp held 22 v d ps) :
    ∃ zs : List Int, RIn .u8 W v zs ∧ ∀ z ∈ zs, (Lit.int .u8 z).wf = true := by
  obtain ⟨a0, len0, cap0, rfl⟩ := okWide_slice Tryz.underlying22 hval
  obtain ⟨fuel, hf⟩ := hd
  rcases open_ints Tryz.underlying22 Tryz.underlying5 (by kernel_rfl) hf with ⟨hcs, _⟩ | ⟨x, l, c, zs, hcs, _, hl, hm, hz, _, hcell, hwz⟩
  · simp [Value.cells] at hcs
    obtain ⟨rfl, rfl, rfl⟩ := hcs
    exact ⟨[], .inl ⟨rfl, rfl⟩, by simp⟩
  · simp [Value.cells] at hcs
    obtain ⟨rfl, rfl, rfl⟩ := hcs
    have hm' : cap0 ≤ 9223372036854775807 := by unfold maxLen at hm; omega
    have hzl : len0 ≤ zs.length := by rw [hz]; split <;> omega
    have hlen : (zs.take len0).length = len0 := by rw [List.length_take]; omega
    refine ⟨zs.take len0, .inr ⟨x, cap0, by rw [hlen], by rw [hlen]; exact hl, hm', fun j u hj => ?_⟩, fun z hz2 => hwz z (List.mem_of_mem_take hz2)⟩
    rw [List.getElem?_map] at hj
    obtain ⟨z, hz3, rfl⟩ := Option.map_eq_some_iff.1 hj
    rw [List.getElem?_take] at hz3
    split at hz3
    · have h1 := hcell j (by omega)
      have e : zs.getD j 0 = z := by rw [List.getD_eq_getElem?_getD, hz3]; rfl
      rw [h1, e]
    · cases hz3

set_option maxRecDepth 100000 in
theorem open_ints_in {H : Type} {enc : TypeId × Value → H} {W : World} {b b0 : Nat} {sp : Nat → Bool} {held : Bool} {v : Value} {d : DataW H} {ps : List MemPlace} (hval : Value.okWide Tryz.prog W .any b0 23 v) (hd : DataW.Trod enc Tryz.prog W b sp held 23 v d ps) :
    ∃ zs : List Int, RIn .i64 W v zs ∧ ∀ z ∈ zs, (Lit.int .i64 z).wf = true := by
  obtain ⟨a0, len0, cap0, rfl⟩ := okWide_slice Tryz.underlying23 hval
  obtain ⟨fuel, hf⟩ := hd
  rcases open_ints Tryz.underlying23 Tryz.underlying3 (by kernel_rfl) hf with ⟨hcs, _⟩ | ⟨x, l, c, zs, hcs, _, hl, hm, hz, _, hcell, hwz⟩
  · simp [Value.cells] at hcs
    obtain ⟨rfl, rfl, rfl⟩ := hcs
    exact ⟨[], .inl ⟨rfl, rfl⟩, by simp⟩
  · simp [Value.cells] at hcs
    obtain ⟨rfl, rfl, rfl⟩ := hcs
    have hm' : cap0 ≤ 9223372036854775807 := by unfold maxLen at hm; omega
    have hzl : len0 ≤ zs.length := by rw [hz]; split <;> omega
    have hlen : (zs.take len0).length = len0 := by rw [List.length_take]; omega
    refine ⟨zs.take len0, .inr ⟨x, cap0, by rw [hlen], by rw [hlen]; exact hl, hm', fun j u hj => ?_⟩, fun z hz2 => hwz z (List.mem_of_mem_take hz2)⟩
    rw [List.getElem?_map] at hj
    obtain ⟨z, hz3, rfl⟩ := Option.map_eq_some_iff.1 hj
    rw [List.getElem?_take] at hz3
    split at hz3
    · have h1 := hcell j (by omega)
      have e : zs.getD j 0 = z := by rw [List.getD_eq_getElem?_getD, hz3]; rfl
      rw [h1, e]
    · cases hz3

theorem allB_wf {zs : List Int} (h : ∀ z ∈ zs, (Lit.int .u8 z).wf = true) : H.AllB zs := fun z hz => lit_u8 (h z hz)
end Go.Proofs.YtnmmaedngdibeaaGreatDoor
