/-
  Contract: Link at the root, and of what is not there.
-/
import Derived.Test.YtojnniacmmcddaaDoorT8
namespace Go.Proofs.YtojnniacmmcddaaDoor
open Go.RowKit
open Go.Lib hiding intOf
set_option linter.unusedVariables false
set_option linter.unusedSimpArgs false

set_option maxRecDepth 20000 in
set_option maxHeartbeats 4000000 in
theorem link_root (ad : Option Addr) (cap n m : Nat) (nx : Int) (tt : List UInt8) (w : World) (X : Option Addr → Nat → World → World → Prop) (hX : ∀ a c W W' x y, X a c W W' → w.heap.size + 1 < W.heap.size → X a c w ((W'.setCell ⟨w.heap.size + 1, 0, none⟩ x).setCell ⟨w.heap.size + 1, 1, none⟩ y))
    (KT : Hid (∀ W, Below w.heap.size w W → Calls Tryd.prog 27 #[.agg #[.slice ad n cap, .int .i64 nx]] W fun e w' => ∃ a c, e = .returned (.agg #[.slice a m c, .int .i64 nx]) ∧ X a c W w' ∧ Below W.heap.size W w')) :
    Calls Tryd.prog 23 #[.agg #[.slice ad n cap, .int .i64 nx], .string ⟨#[]⟩, .string (bs tt)] w fun e w' => ∃ a c, e = .returned (.tuple #[.agg #[.slice a m c, .int .i64 nx], .int .i64 100]) ∧ X a c w w' ∧ Below w.heap.size w w' := by
  have H0 : Hid (Two w ((w.alloc (.cells #[.slice ad n cap, .int .i64 nx] 26)).alloc (.cells #[.slice none 0 0, .int .i64 0] 26)) #[.slice ad n cap, .int .i64 nx] #[.slice none 0 0, .int .i64 0] 26 26) := Two.mk0 w #[.slice ad n cap, .int .i64 nx] #[.slice none 0 0, .int .i64 0] 26 26
  go_enter Tryd.func23, Tryd.ntmps23
  go_upto_region 2 with fail
  generalize (w.alloc _).alloc _ = w0 at *
  have c9 := cells_of H0.out.1
  go_wp2_with (go_at_call 27; refine (KT.out _ H0.out.2.2.1).mono ?_; rintro e w7 ⟨a, c, rfl, R7, b7⟩; have H7 : Hid (Two w w7 _ _ _ _) := H0.out.next b7; have d3 := cells_of H7.out.2.1; have g3 := froz_of H7.out.2.1)
  have lt5 := H0.out.2.2.2
  have e2 := two_set H7.out.2.1 (.slice a m c) (.int .i64 nx)
  have R8 := hX _ _ _ _ (.slice a m c) (.int .i64 nx) R7 (by omega)
  have b8 : Below w.heap.size w ((w7.setCell ⟨w.heap.size + 1, 0, none⟩ (.slice a m c)).setCell ⟨w.heap.size + 1, 1, none⟩ (.int .i64 nx)) := (H7.out.2.2.1.setCell (by show _ ≤ w.heap.size + 1; omega) _).setCell (by show _ ≤ w.heap.size + 1; omega) _
  have hld := run_loadVar_row _ _ _ 26 _ _ _ e2 Tryd.underlying26 rfl (by kernel_rfl)
  exact bodyPost_ret (by rw [results_cell_tmp rfl]; simp [asAddr, hld]) rfl ⟨a, c, rfl, R8, b8⟩

set_option maxRecDepth 20000 in
set_option maxHeartbeats 4000000 in
theorem link_miss (ad : Option Addr) (cap n m : Nat) (nx : Int) (s tt : List UInt8) (w : World) (X : Option Addr → Nat → World → World → Prop) (hX : ∀ a c W W' x y, X a c W W' → w.heap.size + 1 < W.heap.size → X a c w ((W'.setCell ⟨w.heap.size + 1, 0, none⟩ x).setCell ⟨w.heap.size + 1, 1, none⟩ y)) (hs : s ≠ [])
    (KA : Hid (∀ W, Below w.heap.size w W → Calls Tryd.prog 28 #[.agg #[.slice ad n cap, .int .i64 nx], .string (bs tt)] W fun e w' => e = .returned (.tuple #[.agg #[.string ⟨#[]⟩, .int .i64 0, .int .i64 0, .int .i64 0, .int .i64 0, .int .i64 0, .int .i64 0, .string ⟨#[]⟩, .string ⟨#[]⟩, .string ⟨#[]⟩, .slice none 0 0, .int .i64 0, .bool false], .bool false]) ∧ Below W.heap.size W w'))
    (KT : Hid (∀ W, Below w.heap.size w W → Calls Tryd.prog 27 #[.agg #[.slice ad n cap, .int .i64 nx]] W fun e w' => ∃ a c, e = .returned (.agg #[.slice a m c, .int .i64 nx]) ∧ X a c W w' ∧ Below W.heap.size W w')) :
    Calls Tryd.prog 23 #[.agg #[.slice ad n cap, .int .i64 nx], .string (bs s), .string (bs tt)] w fun e w' => ∃ a c, e = .returned (.tuple #[.agg #[.slice a m c, .int .i64 nx], .int .i64 4]) ∧ X a c w w' ∧ Below w.heap.size w w' := by
  have H0 := Two.mk0 w #[.slice ad n cap, .int .i64 nx] #[.slice none 0 0, .int .i64 0] 26 26
  have ht := bs_toList s
  have hE : s.isEmpty = false := by simpa using hs
  go_enter Tryd.func23, Tryd.ntmps23
  go_upto_region 4 with (first
    | (go_at_call 28; refine (KA.out _ H0.2.2.1).mono ?_; rintro e w2 ⟨rfl, b2⟩; have H2 : Hid (Two w w2 _ _ _ _) := H0.next b2; clear b2)
    | (refine wpList_store_row rfl 40 _ _ rfl w2.heap.size #[.string ⟨#[]⟩, .int .i64 0, .int .i64 0, .int .i64 0, .int .i64 0, .int .i64 0, .int .i64 0, .string ⟨#[]⟩, .string ⟨#[]⟩, .string ⟨#[]⟩, .slice none 0 0, .int .i64 0, .bool false] rfl rfl 40 _ (heap_alloc_new w2 _) (by kernel_rfl) rfl (by simp [Value.oneCell']) ?_))
  have b3 : Below w2.heap.size w2 ((w2.alloc (.cells #[.string ⟨#[]⟩, .int .i64 0, .int .i64 0, .int .i64 0, .int .i64 0, .int .i64 0, .int .i64 0, .string ⟨#[]⟩, .string ⟨#[]⟩, .string ⟨#[]⟩, .slice none 0 0, .int .i64 0, .bool false] 40)).setRow w2.heap.size #[.string ⟨#[]⟩, .int .i64 0, .int .i64 0, .int .i64 0, .int .i64 0, .int .i64 0, .int .i64 0, .string ⟨#[]⟩, .string ⟨#[]⟩, .string ⟨#[]⟩, .slice none 0 0, .int .i64 0, .bool false]) := below_setRow (below_box w2 _) (Nat.le_refl _) _
  have r3 := setRow_heap (w2.alloc (.cells #[.string ⟨#[]⟩, .int .i64 0, .int .i64 0, .int .i64 0, .int .i64 0, .int .i64 0, .int .i64 0, .string ⟨#[]⟩, .string ⟨#[]⟩, .string ⟨#[]⟩, .slice none 0 0, .int .i64 0, .bool false] 40)) w2.heap.size _ #[.string ⟨#[]⟩, .int .i64 0, .int .i64 0, .int .i64 0, .int .i64 0, .int .i64 0, .int .i64 0, .string ⟨#[]⟩, .string ⟨#[]⟩, .string ⟨#[]⟩, .slice none 0 0, .int .i64 0, .bool false] _ _ (heap_alloc_new w2 _)
  have l3 : w2.heap.size + 1 ≤ ((w2.alloc (.cells #[.string ⟨#[]⟩, .int .i64 0, .int .i64 0, .int .i64 0, .int .i64 0, .int .i64 0, .int .i64 0, .string ⟨#[]⟩, .string ⟨#[]⟩, .string ⟨#[]⟩, .slice none 0 0, .int .i64 0, .bool false] 40)).setRow w2.heap.size #[.string ⟨#[]⟩, .int .i64 0, .int .i64 0, .int .i64 0, .int .i64 0, .int .i64 0, .int .i64 0, .string ⟨#[]⟩, .string ⟨#[]⟩, .string ⟨#[]⟩, .slice none 0 0, .int .i64 0, .bool false]).heap.size := by rw [setRow_size, size_box]; exact Nat.le_refl _
  generalize (w2.alloc _).setRow _ _ = w3 at *
  have H3 : Hid (Two w w3 _ _ _ _) := H2.out.next b3
  have X2 : Hid (w.heap.size + 2 ≤ w2.heap.size) := H2.out.2.2.2
  clear H2 b3 H0
  have c9 := cells_of H3.out.1
  go_wp2_with (go_at_call 27; refine (KT.out _ H3.out.2.2.1).mono ?_; rintro e w7 ⟨a, c, rfl, R7, b7⟩; have H7 : Hid (Two w w7 _ _ _ _) := H3.out.next b7; have d3 := cells_of H7.out.2.1; have g3 := froz_of H7.out.2.1)
  have lt5 := H3.out.2.2.2
  have e2 := two_set H7.out.2.1 (.slice a m c) (.int .i64 nx)
  have R8 := hX _ _ _ _ (.slice a m c) (.int .i64 nx) R7 (by omega)
  have b8 : Below w.heap.size w ((w7.setCell ⟨w.heap.size + 1, 0, none⟩ (.slice a m c)).setCell ⟨w.heap.size + 1, 1, none⟩ (.int .i64 nx)) := (H7.out.2.2.1.setCell (by show _ ≤ w.heap.size + 1; omega) _).setCell (by show _ ≤ w.heap.size + 1; omega) _
  have hld := run_loadVar_row _ _ _ 26 _ _ _ e2 Tryd.underlying26 rfl (by kernel_rfl)
  exact bodyPost_ret (by rw [results_cell_tmp rfl]; simp [asAddr, hld]) rfl ⟨a, c, rfl, R8, b8⟩

end Go.Proofs.YtojnniacmmcddaaDoor
