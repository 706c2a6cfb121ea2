/-
  Contracts: Add at the root.
-/
import Derived.Test.YtojnniacmmcddaaDoorW4
namespace Go.Proofs.YtojnniacmmcddaaDoor
open Go.RowKit
open Go.Lib hiding intOf
set_option linter.unusedVariables false
set_option linter.unusedSimpArgs false

set_option maxRecDepth 20000 in
set_option maxHeartbeats 4000000 in
theorem add_root (ad : Option Addr) (cap n m : Nat) (nx : Int) (kd md sz : Int) (mk : Bool) (w : World) (X : Option Addr → Nat → World → World → Prop) (hX : ∀ a c W W' x y, X a c W W' → w.heap.size + 2 < W.heap.size → X a c w ((W'.setCell ⟨w.heap.size + 2, 0, none⟩ x).setCell ⟨w.heap.size + 2, 1, none⟩ y))
    (KT : Hid (∀ W, Below w.heap.size w W → Calls Tryd.prog 27 #[.agg #[.slice ad n cap, .int .i64 nx]] W fun e w' => ∃ a c, e = .returned (.agg #[.slice a m c, .int .i64 nx]) ∧ X a c W w' ∧ Below W.heap.size W w')) :
    Calls Tryd.prog 10 #[.agg #[.slice ad n cap, .int .i64 nx], .string ⟨#[]⟩, .agg #[.int .i64 kd, .int .i64 md, .int .i64 0, .int .i64 0, .int .i64 0, .string ⟨#[]⟩, .string ⟨#[]⟩, .string ⟨#[]⟩, .slice none 0 0, .int .i64 sz, .bool mk]] w fun e w' => ∃ a c, e = .returned (.tuple #[.agg #[.slice a m c, .int .i64 nx], .int .i64 100]) ∧ X a c w w' ∧ Below w.heap.size w w' := by
  have H0 := A3.mk0 w #[.slice ad n cap, .int .i64 nx] #[.int .i64 kd, .int .i64 md, .int .i64 0, .int .i64 0, .int .i64 0, .string ⟨#[]⟩, .string ⟨#[]⟩, .string ⟨#[]⟩, .slice none 0 0, .int .i64 sz, .bool mk] #[.slice none 0 0, .int .i64 0]
  go_enter Tryd.func10, Tryd.ntmps10
  go_upto_region 2 with (fail)
  generalize ((w.alloc _).alloc _).alloc _ = w5 at *
  have H5 : Hid (A3 w w5 _ _ _) := H0
  have c5 := cells_of H0.tre
  clear H0
  go_wp2_with (go_at_call 27; refine (KT.out _ H5.out.bel).mono ?_; rintro e w7 ⟨a, c, rfl, R7, b7⟩; have H7 : Hid (A3 w w7 _ _ _) := A3.next H5.out b7; have d3 := cells_of H7.out.res; have g3 := froz_of H7.out.res)
  have lt5 := H5.out.lt
  have e2 := two_set H7.out.res (.slice a m c) (.int .i64 nx)
  have R8 := hX _ _ _ _ (.slice a m c) (.int .i64 nx) R7 (by omega)
  have b8 : Below w.heap.size w ((w7.setCell ⟨w.heap.size + 2, 0, none⟩ (.slice a m c)).setCell ⟨w.heap.size + 2, 1, none⟩ (.int .i64 nx)) := (H7.out.bel.setCell (by show _ ≤ w.heap.size + 2; omega) _).setCell (by show _ ≤ w.heap.size + 2; omega) _
  have hld := run_loadVar_row _ _ _ 26 _ _ _ e2 Tryd.underlying26 rfl (by kernel_rfl)
  exact bodyPost_ret (by rw [results_cell_tmp rfl]; simp [asAddr, hld]) rfl ⟨a, c, rfl, R8, b8⟩

end Go.Proofs.YtojnniacmmcddaaDoor
