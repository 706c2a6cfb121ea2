/-
  Plain: one header, written, is read as it was.
-/
import Derived.Test.YtmholjjicklnhabDoorDec2
namespace Go.Proofs.YtmholjjicklnhabDoor
open Go.RowKit

/-- the block of the header of 'reads' -/
def zz : List Int := sealL (encL ⟨#[97]⟩ ⟨#[]⟩ ⟨#[]⟩ ⟨#[]⟩ ⟨#[]⟩ 48 (numsF 420 0 0 5 0))

theorem zz_length : zz.length = 512 := by decide +kernel
theorem zz_right : rightB zz = true := by decide +kernel
theorem zz_e0 : eN zz 0 = 0 := by decide +kernel
theorem zz_e1 : eN zz 1 = 0 := by decide +kernel
theorem zz_e2 : eN zz 2 = 0 := by decide +kernel
theorem zz_e3 : eN zz 3 = 0 := by decide +kernel
theorem zz_e4 : eN zz 4 = 0 := by decide +kernel
theorem zz_form : formL zz = 1 := by decide +kernel
theorem zz_v0 : vN zz 0 = 420 := by decide +kernel
theorem zz_v3 : vN zz 3 = 5 := by decide +kernel
theorem zz_name : textL zz 0 100 = [97] := by decide +kernel
theorem zz_name_s : tx zz 0 100 = ⟨#[97]⟩ := by
  show strOf (textL zz 0 100) = _
  rw [zz_name]
  rfl
theorem zz_texts : textsB ⟨#[97]⟩ ⟨#[]⟩ ⟨#[]⟩ ⟨#[]⟩ ⟨#[]⟩ = true := by decide +kernel
theorem zz_blank : blankB zz = false := by decide +kernel
theorem nought_blank : blankB (List.replicate 512 0) = true := by decide +kernel
theorem zz_allB : AllB zz := by
  have : zz.all (fun z => decide (0 ≤ z ∧ z ≤ 255)) = true := by decide +kernel
  intro z hz
  have := (List.all_eq_true.1 this) z hz
  simpa using this

end Go.Proofs.YtmholjjicklnhabDoor
