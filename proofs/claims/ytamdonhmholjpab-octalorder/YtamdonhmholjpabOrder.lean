/-
  The law OctalOrder returns true for every two numbers; no condition.
-/
import Derived.Test.YtamdonhmholjpabRows
import Derived.Test.YtamdonhmholjpabReads
import Derived.Test.YtamdonhmholjpabLess
import Derived.ProofKit
import Derived.OpenShut
import Derived.ShutString
import Derived.ChangeOld
import Derived.Below
namespace Go.Proofs.Ytamdonhmholjpab.octalOrder
open Go.ChangeShapes Go.WideShapes Go.ChangeAt Go.RowKit
set_option linter.unusedVariables false


theorem format24 (n : Int) (w : World) (h0 : 0 ≤ n) (h1 : n ≤ 9223372036854775807) :
    Calls Try.prog 12 #[.int .i64 n, .int .i64 24] w fun e w' => e = .returned (.tuple #[.slice (some ⟨w.heap.size, 0, none⟩) 24 24, .int .i64 0]) ∧ w' = w.alloc (.cells (row (octs n 23 ++ [0])) 5) :=
  format_yes n 24 w h0 h1 (by decide) (by decide) ((fits_iff n 24 h1 (by decide)).2 ⟨h0, by show n < 590295810358705651712; omega⟩)

theorem format24_no (n : Int) (w : World) (h0 : -9223372036854775808 ≤ n) (h1 : n < 0) :
    Calls Try.prog 12 #[.int .i64 n, .int .i64 24] w fun e w' => e = .returned (.tuple #[.slice none 0 0, .int .i64 20]) ∧ w = w' :=
  format_no n 24 w h0 (by omega) (by decide) (by decide) (Bool.eq_false_iff.2 fun h => by have := (fits_iff n 24 (by omega) (by decide)).1 h; omega)

theorem conv24a (W : World) (cs : List Int) (o : Obj) (h : cs.length = 24) :
    (convert 22 9 (.slice (some ⟨W.heap.size, 0, none⟩) 24 24)).run Try.prog ((W.alloc (.cells (row cs) 5)).alloc o) = .ok (.string (strOf cs)) ((W.alloc (.cells (row cs) 5)).alloc o) := by
  rw [show (24 : Nat) = cs.length from h.symm]
  refine conv_str _ _ 0 _ cs fun i hi => ?_
  rw [Nat.zero_add, World.cell?_alloc2_first, row_get cs i hi]

theorem conv24b (W : World) (cs : List Int) (o : Obj) (h : cs.length = 24) :
    (convert 22 9 (.slice (some ⟨W.heap.size + 1, 0, none⟩) 24 24)).run Try.prog ((W.alloc o).alloc (.cells (row cs) 5)) = .ok (.string (strOf cs)) ((W.alloc o).alloc (.cells (row cs) 5)) := by
  rw [show (24 : Nat) = cs.length from h.symm]
  refine conv_str _ _ 0 _ cs fun i hi => ?_
  rw [Nat.zero_add, World.cell?_alloc2_new, row_get cs i hi]

theorem octs23 (n : Int) : (octs n 23 ++ [0]).length = 24 := by simp [octs_length]

set_option maxHeartbeats 1000000 in
theorem walk_both (a b : Int) (w : World) (a0 : 0 ≤ a) (a1 : a ≤ 9223372036854775807) (b0 : 0 ≤ b) (b1 : b ≤ 9223372036854775807) :
    Calls Try.prog 8 #[.int .i64 a, .int .i64 b] w fun e w' => e = .returned (.bool true) ∧ Below w.heap.size w w' := by
  have c1 := fun W o => conv24a W (octs a 23 ++ [0]) o (octs23 a)
  have c2 := fun W o => conv24b W (octs b 23 ++ [0]) o (octs23 b)
  have hl := field_less a b 23 a0 (by show a < 590295810358705651712; omega) b0 (by show b < 590295810358705651712; omega)
  go_enter Try.func8, Try.ntmps8
  go_wp2_with (first | (go_at_call 9; refine (reads_any _).mono ?_; rintro e w' ⟨rfl, hbel⟩) | (go_at_call 12; refine (format24 _ _ (by assumption) (by assumption)).mono ?_; rintro e w' ⟨rfl, rfl⟩))
  go_ret
  exact ⟨by simp, (hbel.alloc hbel.size _).alloc (by simp; have := hbel.size; omega) _⟩

theorem walk_a (a b : Int) (w : World) (a0 : -9223372036854775808 ≤ a) (a1 : a < 0) (b0 : 0 ≤ b) (b1 : b ≤ 9223372036854775807) :
    Calls Try.prog 8 #[.int .i64 a, .int .i64 b] w fun e w' => e = .returned (.bool true) ∧ Below w.heap.size w w' := by
  go_enter Try.func8, Try.ntmps8
  go_wp2_with (first | (go_at_call 9; refine (reads_any _).mono ?_; rintro e w' ⟨rfl, hbel⟩) | (go_at_call 12; refine (format24 _ _ (by assumption) (by assumption)).mono ?_; rintro e w' ⟨rfl, rfl⟩) | (go_at_call 12; refine (format24_no _ _ (by assumption) (by assumption)).mono ?_; rintro e w' ⟨rfl, rfl⟩))
  go_ret
  exact ⟨rfl, hbel.alloc hbel.size _⟩

theorem walk_b (a b : Int) (w : World) (b0 : -9223372036854775808 ≤ b) (b1 : b < 0) (a0 : 0 ≤ a) (a1 : a ≤ 9223372036854775807) :
    Calls Try.prog 8 #[.int .i64 a, .int .i64 b] w fun e w' => e = .returned (.bool true) ∧ Below w.heap.size w w' := by
  go_enter Try.func8, Try.ntmps8
  go_wp2_with (first | (go_at_call 9; refine (reads_any _).mono ?_; rintro e w' ⟨rfl, hbel⟩) | (go_at_call 12; refine (format24 _ _ (by assumption) (by assumption)).mono ?_; rintro e w' ⟨rfl, rfl⟩) | (go_at_call 12; refine (format24_no _ _ (by assumption) (by assumption)).mono ?_; rintro e w' ⟨rfl, rfl⟩))
  go_ret
  exact ⟨rfl, hbel.alloc hbel.size _⟩

theorem walk_ab (a b : Int) (w : World) (a0 : -9223372036854775808 ≤ a) (a1 : a < 0) (b0 : -9223372036854775808 ≤ b) (b1 : b < 0) :
    Calls Try.prog 8 #[.int .i64 a, .int .i64 b] w fun e w' => e = .returned (.bool true) ∧ Below w.heap.size w w' := by
  go_enter Try.func8, Try.ntmps8
  go_wp2_with (first | (go_at_call 9; refine (reads_any _).mono ?_; rintro e w' ⟨rfl, hbel⟩) | (go_at_call 12; refine (format24_no _ _ (by assumption) (by assumption)).mono ?_; rintro e w' ⟨rfl, rfl⟩))
  go_ret
  exact ⟨rfl, hbel⟩

theorem walk (a b : Int) (wa : (Lit.int .i64 a).wf = true) (wb : (Lit.int .i64 b).wf = true) (w : World) :
    Calls Try.prog 8 #[.int .i64 a, .int .i64 b] w fun e w' => e = .returned (.bool true) ∧ Below w.heap.size w w' := by
  obtain ⟨h0, h1⟩ := bounds_i64 wa
  obtain ⟨g0, g1⟩ := bounds_i64 wb
  by_cases c : 0 ≤ a
  · by_cases d : 0 ≤ b
    · exact walk_both a b w c h1 d g1
    · exact walk_b a b w g0 (by omega) c h1
  · by_cases d : 0 ≤ b
    · exact walk_a a b w h0 (by omega) d g1
    · exact walk_ab a b w h0 (by omega) g0 (by omega)

theorem own : ownKnob Try.prog.godebug = none := by kernel_rfl
set_option maxRecDepth 100000 in
theorem lifted (os : Os) (started : os.Started) (H : Type) (enc : TypeId × Value → H) :
    ReturnsInHanded {} Try.checked os 8 .any (Rows.octalOrderSpec.pre6 enc Try.prog Try.f8 Rows.octalOrderRow.domain false) (Rows.octalOrderSpec.post enc Try.prog Try.f8 false true false false) := by
  refine returnsInHanded_of_change (C := Try.checked) own started (by kernel_rfl) Try.func8
    (ChangeSpec.witness6 (enc := enc) (C := Try.checked) false ⟨#[], #[.int .i64 0, .int .i64 0], []⟩ 8 (by kernel_rfl) (by kernel_rfl) (by kernel_rfl) (by kernel_rfl)) ?_
  intro W base args ds gs before hval0 hW hcnd _
  have hval : ∀ (j : Nat) t v, Try.f8.params[j]? = some t → args[j]? = some v → Value.okWide Try.prog W .any base t v := hval0
  have hW' := hW
  obtain ⟨p, q, hA0, hV, rfl, hfz, hnd⟩ := hW
  have hA : DataW.TrodAll enc Try.prog W 0 (fun _ => true) true Try.f8.params.toList args.toList ds p := hA0
  rw [Try.params8] at hA hval
  obtain ⟨v0, vs0, d0, ds0, p0, q0, hargs, rfl, rfl, h0, r0⟩ := trodAll_cons hA
  obtain ⟨v1, vs1, d1, ds1, p1, q1, rfl, rfl, rfl, h1, r1⟩ := trodAll_cons r0
  obtain ⟨rfl, rfl, rfl⟩ := trodAll_nil r1
  obtain rfl : args = #[v0, v1] := by cases args; simp_all
  obtain ⟨rfl, rfl⟩ := trodVars_none hV
  obtain ⟨a0, rfl, rfl, rfl, w0⟩ := open_int Try.underlying2 (hval 0 2 v0 rfl rfl) h0
  obtain ⟨a1, rfl, rfl, rfl, w1⟩ := open_int Try.underlying2 (hval 1 2 v1 rfl rfl) h1
  clear hA0 hval0
  refine (walk a0 a1 w0 w1 W).mono fun e W' ⟨he, bel⟩ => ?_
  subst he
  exact ⟨_, rfl, _, _, _, [], [], [], hW', trodAll_mk1 (shut_bool Try.underlying4 _), (trodAll_cons_mk (shut_int Try.underlying2 w0) (trodAll_cons_mk (shut_int Try.underlying2 w1) trodAll_mk0)), rfl, bel.frame _, fun h => by cases h⟩

theorem over : Rows.octalOrderRow.holds Try.pinned (OpenSpec.ofChange Rows.octalOrderSpec) :=
  OpenClaim.holds_of_wide 8 Try.f8 rfl rfl rfl rfl rfl rfl rfl ⟨rfl, rfl, rfl, rfl, rfl⟩ rfl rfl rfl rfl rfl (by kernel_rfl) Try.func8 (by kernel_rfl)
    (of_decide_eq_true (by kernel_rfl)) (by unfold Func.isWrapper; first | (rw [if_pos (by decide +kernel)]; kernel_rfl) | (rw [if_neg (by decide +kernel)]; exact ⟨rfl, rfl⟩))
    (fun os started H enc _ => lifted os started H enc)

end Go.Proofs.Ytamdonhmholjpab.octalOrder
namespace Go.Proofs.Ytamdonhmholjpab
theorem octalOrder_holds : Rows.OctalOrderSaid := octalOrder.over
#print axioms octalOrder_holds
end Go.Proofs.Ytamdonhmholjpab
