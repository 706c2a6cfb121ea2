/-
  Contracts: Put, slices.Clone of rows, same.
-/
import Derived.Test.YtojnniacmmcddaaDoorT6
namespace Go.Proofs.YtojnniacmmcddaaDoor
open Go.RowKit
open Go.Lib hiding intOf
set_option linter.unusedVariables false
set_option linter.unusedSimpArgs false

set_option maxRecDepth 20000 in
set_option maxHeartbeats 4000000 in
theorem put_core (ad : Option Addr) (cap n : Nat) (nx : Int) (r : Rw) (w : World) (M : List Rw)
    (KL : Hid (∀ W, Below w.heap.size w W → Calls Tryd.prog 48 #[.agg #[.slice ad n cap, .int .i64 nx], .agg #[.string (bs r.p), .int .i64 r.id, .int .i64 r.kind, .int .i64 r.mode, .int .i64 0, .int .i64 0, .int .i64 0, .string ⟨#[]⟩, .string ⟨#[]⟩, .string ⟨#[]⟩, .slice none 0 0, .int .i64 r.size, .bool r.made]] W fun e w' => ∃ gd c, e = .returned (.agg #[.slice (some ⟨gd, 0, none⟩) M.length c, .int .i64 nx]) ∧ Rs w' (some ⟨gd, 0, none⟩) M ∧ W.heap.size ≤ gd ∧ M.length ≤ c ∧ Below W.heap.size W w')) :
    Calls Tryd.prog 31 #[.agg #[.slice ad n cap, .int .i64 nx], .agg r.cs.toArray] w fun e w' => ∃ gd c, e = .returned (.agg #[.slice (some ⟨gd, 0, none⟩) M.length c, .int .i64 nx]) ∧ Rs w' (some ⟨gd, 0, none⟩) M ∧ w.heap.size ≤ gd ∧ M.length ≤ c ∧ Below w.heap.size w w' := by
  have H0 := Ly.mk0 w #[.slice ad n cap, .int .i64 nx] #[.string (bs r.p), .int .i64 r.id, .int .i64 r.kind, .int .i64 r.mode, .int .i64 0, .int .i64 0, .int .i64 0, .string ⟨#[]⟩, .string ⟨#[]⟩, .string ⟨#[]⟩, .slice none 0 0, .int .i64 r.size, .bool r.made] #[.slice none 0 0, .int .i64 0]
  have KO : Hid (∀ W, Calls Tryd.prog 39 #[.agg #[.string (bs r.p), .int .i64 r.id, .int .i64 r.kind, .int .i64 r.mode, .int .i64 0, .int .i64 0, .int .i64 0, .string ⟨#[]⟩, .string ⟨#[]⟩, .string ⟨#[]⟩, .slice none 0 0, .int .i64 r.size, .bool r.made]] W fun e w' => e = .returned (.agg #[.string (bs r.p), .int .i64 r.id, .int .i64 r.kind, .int .i64 r.mode, .int .i64 0, .int .i64 0, .int .i64 0, .string ⟨#[]⟩, .string ⟨#[]⟩, .string ⟨#[]⟩, .slice none 0 0, .int .i64 r.size, .bool r.made]) ∧ Below W.heap.size W w') := fun W => own_w r W
  unfold Rw.cs
  have HS : Hid (∀ W, Ly w W #[.slice ad n cap, .int .i64 nx] #[.string (bs r.p), .int .i64 r.id, .int .i64 r.kind, .int .i64 r.mode, .int .i64 0, .int .i64 0, .int .i64 0, .string ⟨#[]⟩, .string ⟨#[]⟩, .string ⟨#[]⟩, .slice none 0 0, .int .i64 r.size, .bool r.made] #[.slice none 0 0, .int .i64 0] → W.cell? ⟨w.heap.size, 0, none⟩ = some (.slice ad n cap) ∧ W.cell? ⟨w.heap.size, 1, none⟩ = some (.int .i64 nx) ∧ (∀ k, W.cell? ⟨w.heap.size + 1, k, none⟩ = (#[.string (bs r.p), .int .i64 r.id, .int .i64 r.kind, .int .i64 r.mode, .int .i64 0, .int .i64 0, .int .i64 0, .string ⟨#[]⟩, .string ⟨#[]⟩, .string ⟨#[]⟩, .slice none 0 0, .int .i64 r.size, .bool r.made] : Array Value)[k]?)) := fun W h => ⟨cells_of h.tre 0, cells_of h.tre 1, cells_of h.row⟩
  have HK : Hid (∀ W p v, p.block = w.heap.size + 2 → (W.cell? ⟨w.heap.size, 0, none⟩ = some (.slice ad n cap) ∧ W.cell? ⟨w.heap.size, 1, none⟩ = some (.int .i64 nx) ∧ (∀ k, W.cell? ⟨w.heap.size + 1, k, none⟩ = (#[.string (bs r.p), .int .i64 r.id, .int .i64 r.kind, .int .i64 r.mode, .int .i64 0, .int .i64 0, .int .i64 0, .string ⟨#[]⟩, .string ⟨#[]⟩, .string ⟨#[]⟩, .slice none 0 0, .int .i64 r.size, .bool r.made] : Array Value)[k]?)) → (fun W => W.cell? ⟨w.heap.size, 0, none⟩ = some (.slice ad n cap) ∧ W.cell? ⟨w.heap.size, 1, none⟩ = some (.int .i64 nx) ∧ (∀ k, W.cell? ⟨w.heap.size + 1, k, none⟩ = (#[.string (bs r.p), .int .i64 r.id, .int .i64 r.kind, .int .i64 r.mode, .int .i64 0, .int .i64 0, .int .i64 0, .string ⟨#[]⟩, .string ⟨#[]⟩, .string ⟨#[]⟩, .slice none 0 0, .int .i64 r.size, .bool r.made] : Array Value)[k]?)) (World.setCell W p v)) := fun W p v hp h => ⟨by rw [World.cell?_setCell_far _ _ _ _ (by rw [hp]; show _ ≠ w.heap.size; omega)]; exact h.1, by rw [World.cell?_setCell_far _ _ _ _ (by rw [hp]; show _ ≠ w.heap.size; omega)]; exact h.2.1, fun k => by rw [World.cell?_setCell_far _ _ _ _ (by rw [hp]; show _ ≠ w.heap.size + 1; omega)]; exact h.2.2 k⟩
  go_enter Tryd.func31, Tryd.ntmps31
  go_wp2_with fail
  generalize ((w.alloc _).alloc _).alloc _ = w1 at *
  have L1 := H0.drew
  have h3 := HS.out _ L1
  have lt0 := H0.lt
  go_region_held3 (fun W => W.cell? ⟨w.heap.size, 0, none⟩ = some (.slice ad n cap) ∧ W.cell? ⟨w.heap.size, 1, none⟩ = some (.int .i64 nx) ∧ (∀ k, W.cell? ⟨w.heap.size + 1, k, none⟩ = (#[.string (bs r.p), .int .i64 r.id, .int .i64 r.kind, .int .i64 r.mode, .int .i64 0, .int .i64 0, .int .i64 0, .string ⟨#[]⟩, .string ⟨#[]⟩, .string ⟨#[]⟩, .slice none 0 0, .int .i64 r.size, .bool r.made] : Array Value)[k]?)) (first | assumption | exact h3 | exact HK.out _ _ _ rfl (HK.out _ _ _ rfl h5) | exact HK.out _ _ _ rfl h5) ((first
    | (go_at_call 39; refine (KO.out _).mono ?_; rintro e w4 ⟨rfl, b4⟩; have L4 := L1.next b4; have h4 := HS.out _ L4)
    | (go_at_call 48; refine (KL.out _ L4.bel).mono ?_; rintro e w5 ⟨gd, c, rfl, R5, G5, C5, b5⟩; have L5 := L4.next b5; have h5 := HS.out _ L5; have d3 := cells_of L5.res 0; have d4 := cells_of L5.res 1; have g3 := froz_of L5.res)))
  have hg2 : gd ≠ w.heap.size + 2 := by
    have := L4.lt
    omega
  have hg3 : w.heap.size ≤ gd := by
    have := L4.lt
    omega
  have e2 := two_set L5.res (.slice (some ⟨gd, 0, none⟩) M.length c) (.int .i64 nx)
  have R6 := R5.far (gd := gd) rfl (w.heap.size + 2) hg2 (.slice (some ⟨gd, 0, none⟩) M.length c) (.int .i64 nx)
  have b6 : Below w.heap.size w ((w5.setCell ⟨w.heap.size + 2, 0, none⟩ (.slice (some ⟨gd, 0, none⟩) M.length c)).setCell ⟨w.heap.size + 2, 1, none⟩ (.int .i64 nx)) := (L5.bel.setCell (by show _ ≤ w.heap.size + 2; omega) _).setCell (by show _ ≤ w.heap.size + 2; omega) _
  go_wp2_with fail
  exact bodyPost_ret (results_cell_row rfl _ _ (w.heap.size + 2) 26 _ (0, 0) _ rfl e2 Tryd.underlying26 rfl (by kernel_rfl)) rfl ⟨gd, c, rfl, R6, hg3, C5, b6⟩

end Go.Proofs.YtojnniacmmcddaaDoor
