/-
  The head of each law: 'sums' returns true, in every world; it makes new blocks alone.
-/
import Derived.Test.YtmholjjicklnhaaSeal
namespace Go.Proofs.Ytmholjjicklnhaa
open Go.RowKit
set_option linter.unusedVariables false
set_option linter.unusedSimpArgs false

def Z512 : List Int := List.replicate 512 0
set_option maxRecDepth 100000 in
theorem z_len : Z512.length = 512 := by unfold Z512; rw [List.length_replicate]
theorem z_all : AllB Z512 := fun z h => by have := List.eq_of_mem_replicate h; omega
theorem z_plain : plainS Z512 = 256 := by decide +kernel
theorem z_signed : signedS Z512 = 256 := by decide +kernel
theorem z_right : rightB Z512 = false := by decide +kernel
theorem z_field : fieldOf (sealL Z512) = [48, 48, 48, 52, 48, 48, 0, 32] := by decide +kernel

/-- a new row of bytes is as it was, if all that came later is new -/
theorem head_ok (w : World) : Calls Try.prog 9 #[] w fun e w' => e = .returned (.bool true) ∧ Below w.heap.size w w' := by
  have hmk := make512 w
  have o1 : Own w (w.alloc (.cells (row (List.replicate 512 0)) 5)) w.heap.size Z512 := own_alloc w (List.replicate 512 0)
  generalize w.alloc (.cells (row (List.replicate 512 0)) 5) = w1 at *
  have q1 := seal_yes ⟨w.heap.size, 0, none⟩ 512 Z512 w1 z_all z_len o1.src
  go_enter Try.func9, Try.ntmps9
  go_wp2_with fail
  refine q1.mono ?_
  rintro e w2 ⟨g, rfl, o2⟩
  clear q1 hmk
  have s1 := o1.src.grow o2.below
  have b2 := o1.below.trans (o2.below.mono o1.below.size)
  have q2 := plain_w ⟨w.heap.size, 0, none⟩ 512 Z512 w2 z_all (by rw [z_len]; omega) s1
  have q3 := signed_w ⟨w.heap.size, 0, none⟩ 512 Z512 w2 z_all (by rw [z_len]; omega) s1
  have q4 := right_yes ⟨g, 0, none⟩ 512 (sealL Z512) w2 (sealL_allB _ z_all) (sealL_length _ z_len) (by omega) (by omega) o2.src
  have q5 := right_yes ⟨w.heap.size, 0, none⟩ 512 Z512 w2 z_all z_len (by omega) (by omega) s1
  rw [z_plain, z_len] at q2
  rw [z_signed, z_len] at q3
  rw [sealL_right Z512 z_len z_all] at q4
  rw [z_right] at q5
  have hcut := run_cut w2 ⟨g, 0, none⟩ 512 512 148 156 (by omega) (by omega) (by omega) (by omega)
  have hcv := conv_src w2 (some ⟨g, 0 + 148, none⟩) [48, 48, 48, 52, 48, 48, 0, 32] 8 (512 - 148) rfl (by rw [← z_field]; exact src_cut o2.src 148 8 (by omega))
  rw [show strOf [48, 48, 48, 52, 48, 48, 0, 32] = ⟨#[48, 48, 48, 52, 48, 48, 0, 32]⟩ by rfl] at hcv
  clear o1 o2 s1
  go_wp2_with fail
  refine q2.mono ?_
  rintro e w' ⟨rfl, rfl⟩
  go_wp2_with fail
  refine q3.mono ?_
  rintro e w' ⟨rfl, rfl⟩
  go_wp2_with fail
  refine q4.mono ?_
  rintro e w' ⟨rfl, rfl⟩
  go_wp2_with fail
  refine q5.mono ?_
  rintro e w' ⟨rfl, rfl⟩
  go_wp2
  go_ret
  exact ⟨rfl, b2⟩

end Go.Proofs.Ytmholjjicklnhaa
