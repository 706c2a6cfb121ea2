/-
  Contract: slices.Concat of three parts.
-/
import Derived.Test.YtojnniacmmcddaaDoorT2
namespace Go.Proofs.YtojnniacmmcddaaDoor
open Go.RowKit
open Go.Lib hiding intOf
set_option linter.unusedVariables false
set_option linter.unusedSimpArgs false

set_option maxRecDepth 20000 in
set_option maxHeartbeats 2000000 in
theorem concat_w (g : Nat) (a1 a2 a3 : Option Addr) (c1 c2 c3 : Nat) (L1 L2 L3 : List Rw) (w : World) (d1 : w.cell? ⟨g, 0, none⟩ = some (.slice a1 L1.length c1)) (d2 : w.cell? ⟨g, 1, none⟩ = some (.slice a2 L2.length c2)) (d3 : w.cell? ⟨g, 2, none⟩ = some (.slice a3 L3.length c3))
    (r1 : Rs w a1 L1) (r2 : Rs w a2 L2) (r3 : Rs w a3 L3) (z1 : a1 = none → c1 = 0) (z2 : a2 = none → c2 = 0) (z3 : a3 = none → c3 = 0) (h0 : 0 < L1.length + L2.length + L3.length) (hl : L1.length + L2.length + L3.length ≤ 3000000) :
    Calls Tryd.prog 53 #[.slice (some ⟨g, 0, none⟩) 3 3] w fun e w' => ∃ gd c, e = .returned (.slice (some ⟨gd, 0, none⟩) (L1 ++ L2 ++ L3).length c) ∧ Rs w' (some ⟨gd, 0, none⟩) (L1 ++ L2 ++ L3) ∧ w.heap.size ≤ gd ∧ (L1 ++ L2 ++ L3).length ≤ c ∧ Below w.heap.size w w' := by
  have hg : g < w.heap.size := World.block_lt_of_cell? w _ d1
  have KG : Hid (∀ W z, z = ((L1.length + L2.length + L3.length : Nat) : Int) → Calls Tryd.prog 69 #[.slice none 0 0, .int .i64 z] W fun e w' => ∃ c, e = .returned (.slice (some ⟨W.heap.size, 0, none⟩) 0 c) ∧ Ow w' W.heap.size (.slice (some ⟨W.heap.size, 0, none⟩) 0 c) [] ∧ Below W.heap.size W w') := fun W z hz => by subst hz; exact grow_w _ h0 hl W
  have R1 : Hid (Rs w a1 L1) := r1
  have R2 : Hid (Rs w a2 L2) := r2
  have R3 : Hid (Rs w a3 L3) := r3
  have Z1 : Hid (a1 = none → c1 = 0) := z1
  have Z2 : Hid (a2 = none → c2 = 0) := z2
  have Z3 : Hid (a3 = none → c3 = 0) := z3
  clear r1 r2 r3 z1 z2 z3
  have w1 : wrap64 (L1.length : Int) = (L1.length : Int) := by unfold wrap64; omega
  have w2 : wrap64 ((L1.length : Int) + (L2.length : Int)) = (L1.length : Int) + (L2.length : Int) := by unfold wrap64; omega
  have w3 : wrap64 ((L1.length : Int) + (L2.length : Int) + (L3.length : Int)) = (L1.length : Int) + (L2.length : Int) + (L3.length : Int) := by unfold wrap64; omega
  have p1 : ¬ (L1.length : Int) < 0 := by omega
  have p2 : ¬ (L1.length : Int) + (L2.length : Int) < 0 := by omega
  have p3 : ¬ (L1.length : Int) + (L2.length : Int) + (L3.length : Int) < 0 := by omega
  go_enter Tryd.func53, Tryd.ntmps53
  go_wp2_with fail
  refine wp_loop_rounds 4 ?_
  rw [rounds_succ]
  go_wp2
  rw [rounds_succ]
  go_wp2
  rw [rounds_succ]
  go_wp2
  rw [rounds_succ]
  go_wp2_with (go_at_call 69; refine (KG.out _ _ (by omega)).mono ?_; rintro e v0 ⟨c, rfl, O0, b0⟩)
  clear w1 w2 w3 p1 p2 p3 KG
  have f1 : v0.cell? ⟨g, 0, none⟩ = some (.slice a1 L1.length c1) := (b0.cell (p := ⟨g, 0, none⟩) hg).trans d1
  refine wp_loop_rounds 4 ?_
  rw [rounds_succ]
  go_wp2_with (at_builtin; refine wpList_rows rfl _ _ rfl w.heap.size w.heap.size 0 c [] rfl rfl O0 b0.size a1 L1.length c1 L1 rfl rfl (R1.out.below b0) Z1.out (by omega) ?_; intro g1 e1 v1 O1 b1; simp only [List.nil_append, Nat.zero_add] at O1 ⊢)
  have b01 : Below w.heap.size w v1 := b0.trans b1
  have f2 : v1.cell? ⟨g, 1, none⟩ = some (.slice a2 L2.length c2) := (b01.cell (p := ⟨g, 1, none⟩) hg).trans d2
  have l12 : Hid (L1.length + L2.length ≤ 3000000) := (by show _ ≤ _; omega)
  clear f1 b0 b1 O0
  rw [rounds_succ]
  go_wp2_with (at_builtin; refine wpList_rows rfl _ _ rfl w.heap.size g1 L1.length e1 L1 rfl rfl O1 b01.size a2 L2.length c2 L2 rfl rfl (R2.out.below b01) Z2.out l12.out ?_; intro g2 e2 v2 O2 b2)
  have b02 : Below w.heap.size w v2 := b01.trans b2
  have f3 : v2.cell? ⟨g, 2, none⟩ = some (.slice a3 L3.length c3) := (b02.cell (p := ⟨g, 2, none⟩) hg).trans d3
  have l123 : Hid (L1.length + L2.length + L3.length ≤ 3000000) := hl
  have l4 : Hid ((L1 ++ L2).length = L1.length + L2.length) := List.length_append
  clear f2 b01 b2 O1
  rw [rounds_succ]
  go_wp2_with (at_builtin; refine wpList_rows rfl _ _ rfl w.heap.size g2 (L1.length + L2.length) e2 (L1 ++ L2) rfl l4.out O2 b02.size a3 L3.length c3 L3 rfl rfl (R3.out.below b02) Z3.out l123.out ?_; intro g3 e3 v3 O3 b3)
  have b03 : Below w.heap.size w v3 := b02.trans b3
  have hge : w.heap.size ≤ g3 := by
    rcases O3.2 with ⟨q1, _⟩ | ⟨g', cp, cur, q1, q2, _⟩
    · cases q1
    · simp at q1; omega
  have hle : Hid ((L1 ++ L2 ++ L3).length ≤ e3) := (by
    rcases O3.2 with ⟨q1, _⟩ | ⟨g', cp, cur, q1, q2, q3, q4, _⟩
    · cases q1
    · simp at q1; show _ ≤ _; omega)
  have l5 : Hid (L1.length + L2.length + L3.length = (L1 ++ L2 ++ L3).length) := (by show _ = _; simp only [List.length_append])
  have l6 : Hid (Rs v3 (some ⟨g3, 0, none⟩) (L1 ++ L2 ++ L3)) := (Ow.rs O3).2
  rw [rounds_succ]
  go_wp2_with fail
  go_ret
  exact ⟨g3, e3, by rw [← l5.out]; rfl, l6.out, hge, hle.out, b03⟩

end Go.Proofs.YtojnniacmmcddaaDoor
