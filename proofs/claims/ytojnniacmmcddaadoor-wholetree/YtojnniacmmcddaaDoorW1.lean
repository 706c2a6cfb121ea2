/-
  Contracts: same (a tree whose rows are a copy).
-/
import Derived.Test.YtojnniacmmcddaaDoorT8
namespace Go.Proofs.YtojnniacmmcddaaDoor
open Go.RowKit
open Go.Lib hiding intOf
set_option linter.unusedVariables false
set_option linter.unusedSimpArgs false

set_option maxRecDepth 20000 in
set_option maxHeartbeats 4000000 in
theorem same_core (ad : Option Addr) (cap n m : Nat) (nx : Int) (w : World) (M : List Rw)
    (KL : Hid (∀ W, Below w.heap.size w W → Calls Tryd.prog 50 #[.slice ad n cap] W fun e w' => ∃ gd c, e = .returned (.slice (some ⟨gd, 0, none⟩) m c) ∧ Rs w' (some ⟨gd, 0, none⟩) M ∧ W.heap.size ≤ gd ∧ m ≤ c ∧ Below W.heap.size W w')) :
    Calls Tryd.prog 27 #[.agg #[.slice ad n cap, .int .i64 nx]] w fun e w' => ∃ gd c, e = .returned (.agg #[.slice (some ⟨gd, 0, none⟩) m c, .int .i64 nx]) ∧ Rs w' (some ⟨gd, 0, none⟩) M ∧ w.heap.size ≤ gd ∧ m ≤ c ∧ Below w.heap.size w w' := by
  have H0 := Two.mk0 w #[.slice ad n cap, .int .i64 nx] #[.slice none 0 0, .int .i64 0] 26 26
  have HS : Hid (∀ W, Two w W #[.slice ad n cap, .int .i64 nx] #[.slice none 0 0, .int .i64 0] 26 26 → W.cell? ⟨w.heap.size, 0, none⟩ = some (.slice ad n cap) ∧ W.cell? ⟨w.heap.size, 1, none⟩ = some (.int .i64 nx)) := fun W h => ⟨cells_of h.1 0, cells_of h.1 1⟩
  have HK : Hid (∀ W p v, p.block = w.heap.size + 1 → (W.cell? ⟨w.heap.size, 0, none⟩ = some (.slice ad n cap) ∧ W.cell? ⟨w.heap.size, 1, none⟩ = some (.int .i64 nx)) → (fun W : World => W.cell? ⟨w.heap.size, 0, none⟩ = some (.slice ad n cap) ∧ W.cell? ⟨w.heap.size, 1, none⟩ = some (.int .i64 nx)) (World.setCell W p v)) := fun W p v hp h => ⟨by rw [World.cell?_setCell_far _ _ _ _ (by rw [hp]; show _ ≠ w.heap.size; omega)]; exact h.1, by rw [World.cell?_setCell_far _ _ _ _ (by rw [hp]; show _ ≠ w.heap.size; omega)]; exact h.2⟩
  go_enter Tryd.func27, Tryd.ntmps27
  go_wp2_with fail
  generalize (w.alloc _).alloc _ = w1 at *
  have L1 := H0.drew
  have h3 := HS.out _ L1
  have lt0 := H0.2.2.2
  go_region_held3 (fun W => W.cell? ⟨w.heap.size, 0, none⟩ = some (.slice ad n cap) ∧ W.cell? ⟨w.heap.size, 1, none⟩ = some (.int .i64 nx)) (first | assumption | exact h3 | exact HK.out _ _ _ rfl (HK.out _ _ _ rfl h5) | exact HK.out _ _ _ rfl h5) (
    (go_at_call 50; refine (KL.out _ L1.2.2.1).mono ?_; rintro e w5 ⟨gd, c, rfl, R5, G5, C5, b5⟩; have L5 := L1.next b5; have h5 := HS.out _ L5; have d3 := cells_of L5.2.1 0; have d4 := cells_of L5.2.1 1; have g3 := froz_of L5.2.1))
  have hg2 : gd ≠ w.heap.size + 1 := by
    have := L1.2.2.2
    omega
  have hg3 : w.heap.size ≤ gd := by
    have := L1.2.2.2
    omega
  have e2 := two_set L5.2.1 (.slice (some ⟨gd, 0, none⟩) m c) (.int .i64 nx)
  have R6 := R5.far (gd := gd) rfl (w.heap.size + 1) hg2 (.slice (some ⟨gd, 0, none⟩) m c) (.int .i64 nx)
  have b6 : Below w.heap.size w ((w5.setCell ⟨w.heap.size + 1, 0, none⟩ (.slice (some ⟨gd, 0, none⟩) m c)).setCell ⟨w.heap.size + 1, 1, none⟩ (.int .i64 nx)) := (L5.2.2.1.setCell (by show _ ≤ w.heap.size + 1; omega) _).setCell (by show _ ≤ w.heap.size + 1; omega) _
  go_wp2_with fail
  exact bodyPost_ret (results_cell_row rfl _ _ (w.heap.size + 1) 26 _ (0, 0) _ rfl e2 Tryd.underlying26 rfl (by kernel_rfl)) rfl ⟨gd, c, rfl, R6, hg3, C5, b6⟩

theorem same_some (a : Addr) (cap : Nat) (nx : Int) (L : List Rw) (w : World) (hr : Rs w (some a) L) (hl : L.length ≤ 1000000) :
    Calls Tryd.prog 27 #[.agg #[.slice (some a) L.length cap, .int .i64 nx]] w fun e w' => ∃ gd c, e = .returned (.agg #[.slice (some ⟨gd, 0, none⟩) L.length c, .int .i64 nx]) ∧ Rs w' (some ⟨gd, 0, none⟩) L ∧ w.heap.size ≤ gd ∧ L.length ≤ c ∧ Below w.heap.size w w' :=
  same_core (some a) cap L.length L.length nx w L fun W hb => clone_some a cap L W (hr.below hb) hl

set_option maxRecDepth 20000 in
set_option maxHeartbeats 4000000 in
theorem same_nil (cap : Nat) (nx : Int) (w : World) :
    Calls Tryd.prog 27 #[.agg #[.slice none 0 cap, .int .i64 nx]] w fun e w' => e = .returned (.agg #[.slice none 0 0, .int .i64 nx]) ∧ Below w.heap.size w w' := by
  have H0 := Two.mk0 w #[.slice none 0 cap, .int .i64 nx] #[.slice none 0 0, .int .i64 0] 26 26
  have KL : Hid (∀ W, Calls Tryd.prog 50 #[.slice none 0 cap] W fun e w' => e = .returned (.slice none 0 0) ∧ w' = W) := fun W => clone_nil cap W
  have HS : Hid (∀ W, Two w W #[.slice none 0 cap, .int .i64 nx] #[.slice none 0 0, .int .i64 0] 26 26 → W.cell? ⟨w.heap.size, 0, none⟩ = some (.slice none 0 cap) ∧ W.cell? ⟨w.heap.size, 1, none⟩ = some (.int .i64 nx)) := fun W h => ⟨cells_of h.1 0, cells_of h.1 1⟩
  have HK : Hid (∀ W p v, p.block = w.heap.size + 1 → (W.cell? ⟨w.heap.size, 0, none⟩ = some (.slice none 0 cap) ∧ W.cell? ⟨w.heap.size, 1, none⟩ = some (.int .i64 nx)) → (fun W : World => W.cell? ⟨w.heap.size, 0, none⟩ = some (.slice none 0 cap) ∧ W.cell? ⟨w.heap.size, 1, none⟩ = some (.int .i64 nx)) (World.setCell W p v)) := fun W p v hp h => ⟨by rw [World.cell?_setCell_far _ _ _ _ (by rw [hp]; show _ ≠ w.heap.size; omega)]; exact h.1, by rw [World.cell?_setCell_far _ _ _ _ (by rw [hp]; show _ ≠ w.heap.size; omega)]; exact h.2⟩
  go_enter Tryd.func27, Tryd.ntmps27
  go_wp2_with fail
  generalize (w.alloc _).alloc _ = w1 at *
  have L1 := H0.drew
  have h3 := HS.out _ L1
  have lt0 := H0.2.2.2
  go_region_held3 (fun W => W.cell? ⟨w.heap.size, 0, none⟩ = some (.slice none 0 cap) ∧ W.cell? ⟨w.heap.size, 1, none⟩ = some (.int .i64 nx)) (first | assumption | exact h3 | exact HK.out _ _ _ rfl (HK.out _ _ _ rfl h5) | exact HK.out _ _ _ rfl h5) (
    (go_at_call 50; refine (KL.out _).mono ?_; rintro e w5 ⟨rfl, b5⟩; have L5 : Two w w5 _ _ _ _ := b5 ▸ L1; have h5 := HS.out _ L5; have d3 := cells_of L5.2.1 0; have d4 := cells_of L5.2.1 1; have g3 := froz_of L5.2.1; clear b5))
  have e2 := two_set L5.2.1 (.slice none 0 0) (.int .i64 nx)
  have b6 : Below w.heap.size w ((w5.setCell ⟨w.heap.size + 1, 0, none⟩ (.slice none 0 0)).setCell ⟨w.heap.size + 1, 1, none⟩ (.int .i64 nx)) := (L5.2.2.1.setCell (by show _ ≤ w.heap.size + 1; omega) _).setCell (by show _ ≤ w.heap.size + 1; omega) _
  go_wp2_with fail
  exact bodyPost_ret (results_cell_row rfl _ _ (w.heap.size + 1) 26 _ (0, 0) _ rfl e2 Tryd.underlying26 rfl (by kernel_rfl)) rfl ⟨rfl, b6⟩

end Go.Proofs.YtojnniacmmcddaaDoor
