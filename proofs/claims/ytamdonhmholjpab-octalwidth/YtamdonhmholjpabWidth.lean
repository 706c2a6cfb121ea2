/-
  The law OctalWidth returns true for every number and every width; no condition.
-/
import Derived.Test.YtamdonhmholjpabRows
import Derived.Test.YtamdonhmholjpabReads
import Derived.ProofKit
import Derived.OpenShut
import Derived.ShutString
import Derived.ChangeOld
import Derived.Below
namespace Go.Proofs.Ytamdonhmholjpab.octalWidth
open Go.ChangeShapes Go.WideShapes Go.ChangeAt Go.RowKit
set_option linter.unusedVariables false

theorem own : ownKnob Try.prog.godebug = none := by kernel_rfl

theorem walk_minus (a0 a1 M : Int) (w : World) (h0 : -9223372036854775808 ≤ a0) (h1 : a0 ≤ 9223372036854775807) (c1 : 2 ≤ a1) (c2 : a1 ≤ 21) (hM : wrap64 (2 ^ (3 * (a1 - 1)).toNat) = M) (hn : a0 < 0) (hf : fitsB a0 a1 = false) :
    Calls Try.prog 7 #[.int .i64 a0, .int .i64 a1] w fun e w' => e = .returned (.bool true) ∧ Below w.heap.size w w' := by
  go_enter Try.func7, Try.ntmps7
  go_wp2_with (first | (go_at_call 9; refine (reads_any _).mono ?_; rintro e w' ⟨rfl, hbel⟩) | (go_at_call 14; refine (fits_any _ _ _ (by omega) (by omega)).mono ?_; rintro e w' ⟨rfl, rfl⟩))
  go_ret
  exact ⟨rfl, hbel⟩

theorem walk_in (a0 a1 M : Int) (w : World) (h0 : -9223372036854775808 ≤ a0) (h1 : a0 ≤ 9223372036854775807) (c1 : 2 ≤ a1) (c2 : a1 ≤ 21) (hM : wrap64 (2 ^ (3 * (a1 - 1)).toNat) = M) (hn : 0 ≤ a0) (hl : a0 < M) (hf : fitsB a0 a1 = true) (hg : fitsB a0 (a1 + 1) = true) :
    Calls Try.prog 7 #[.int .i64 a0, .int .i64 a1] w fun e w' => e = .returned (.bool true) ∧ Below w.heap.size w w' := by
  go_enter Try.func7, Try.ntmps7
  go_wp2_with (first | (go_at_call 9; refine (reads_any _).mono ?_; rintro e w' ⟨rfl, hbel⟩) | (go_at_call 14; refine (fits_any _ _ _ (by omega) (by omega)).mono ?_; rintro e w' ⟨rfl, rfl⟩))
  go_ret
  exact ⟨rfl, hbel⟩

theorem walk_out (a0 a1 M : Int) (w : World) (h0 : -9223372036854775808 ≤ a0) (h1 : a0 ≤ 9223372036854775807) (c1 : 2 ≤ a1) (c2 : a1 ≤ 21) (hM : wrap64 (2 ^ (3 * (a1 - 1)).toNat) = M) (hn : 0 ≤ a0) (hl : decide (a0 < M) = false) (hf : fitsB a0 a1 = false) :
    Calls Try.prog 7 #[.int .i64 a0, .int .i64 a1] w fun e w' => e = .returned (.bool true) ∧ Below w.heap.size w w' := by
  go_enter Try.func7, Try.ntmps7
  go_wp2_with (first | (go_at_call 9; refine (reads_any _).mono ?_; rintro e w' ⟨rfl, hbel⟩) | (go_at_call 14; refine (fits_any _ _ _ (by omega) (by omega)).mono ?_; rintro e w' ⟨rfl, rfl⟩))
  go_ret
  exact ⟨rfl, hbel⟩

theorem walk_wide (a0 a1 : Int) (w : World) (c : a1 < 2 ∨ 21 < a1) :
    Calls Try.prog 7 #[.int .i64 a0, .int .i64 a1] w fun e w' => e = .returned (.bool true) ∧ Below w.heap.size w w' := by
  rcases c with c | c
  · go_enter Try.func7, Try.ntmps7
    go_wp2_with (go_at_call 9; refine (reads_any _).mono ?_; rintro e w' ⟨rfl, hbel⟩)
    go_ret
    exact ⟨rfl, hbel⟩
  · have c' : ¬ a1 < 2 := by omega
    go_enter Try.func7, Try.ntmps7
    go_wp2_with (go_at_call 9; refine (reads_any _).mono ?_; rintro e w' ⟨rfl, hbel⟩)
    go_ret
    exact ⟨rfl, hbel⟩

theorem most (k : Nat) (h : k ≤ 20) : wrap64 (2 ^ (3 * k)) = 8 ^ k := by
  have : ∀ k : Fin 21, wrap64 (2 ^ (3 * k.val)) = 8 ^ k.val := by decide +kernel
  exact this ⟨k, by omega⟩

theorem walk (a0 : Int) (a1 : Int) (w0 : (Lit.int .i64 a0).wf = true) (w1 : (Lit.int .i64 a1).wf = true) (w : World) :
    Calls Try.prog 7 #[.int .i64 a0, .int .i64 a1] w fun e w' => e = .returned (.bool true) ∧ Below w.heap.size w w' := by
  obtain ⟨h0, h1⟩ := bounds_i64 w0
  by_cases c1 : 2 ≤ a1
  · by_cases c2 : a1 ≤ 21
    · have hM : wrap64 (2 ^ (3 * (a1 - 1)).toNat) = 8 ^ (a1 - 1).toNat := by
        rw [show (3 * (a1 - 1)).toNat = 3 * (a1 - 1).toNat by omega]
        exact most _ (by omega)
      have f1 := fits_iff a0 a1 h1 c1
      have f2 := fits_iff a0 (a1 + 1) h1 (by omega)
      by_cases hn : 0 ≤ a0
      · by_cases hl : a0 < 8 ^ (a1 - 1).toNat
        · refine walk_in a0 a1 _ w h0 h1 c1 c2 hM hn hl (f1.2 ⟨hn, hl⟩) (f2.2 ⟨hn, Int.lt_of_lt_of_le hl ?_⟩)
          rw [show (a1 + 1 - 1).toNat = (a1 - 1).toNat + 1 by omega, Int.pow_succ]
          have : (0 : Int) < 8 ^ (a1 - 1).toNat := Int.pow_pos (by decide)
          omega
        · exact walk_out a0 a1 _ w h0 h1 c1 c2 hM hn (decide_eq_false hl) (Bool.eq_false_iff.2 fun h => hl (f1.1 h).2)
      · exact walk_minus a0 a1 _ w h0 h1 c1 c2 hM (Int.not_le.1 hn) (Bool.eq_false_iff.2 fun h => hn (f1.1 h).1)
    · exact walk_wide a0 a1 w (.inr (Int.not_le.1 c2))
  · exact walk_wide a0 a1 w (.inl (Int.not_le.1 c1))

set_option maxRecDepth 100000 in
theorem lifted (os : Os) (started : os.Started) (H : Type) (enc : TypeId × Value → H) :
    ReturnsInHanded {} Try.checked os 7 .any (Rows.octalWidthSpec.pre6 enc Try.prog Try.f7 Rows.octalWidthRow.domain false) (Rows.octalWidthSpec.post enc Try.prog Try.f7 false true false false) := by
  refine returnsInHanded_of_change (C := Try.checked) own started (by kernel_rfl) Try.func7
    (ChangeSpec.witness6 (enc := enc) (C := Try.checked) false ⟨#[], #[.int .i64 0, .int .i64 0], []⟩ 8 (by kernel_rfl) (by kernel_rfl) (by kernel_rfl) (by kernel_rfl)) ?_
  intro W base args ds gs before hval0 hW hcnd _
  have hval : ∀ (j : Nat) t v, Try.f7.params[j]? = some t → args[j]? = some v → Value.okWide Try.prog W .any base t v := hval0
  have hW' := hW
  obtain ⟨p, q, hA0, hV, rfl, hfz, hnd⟩ := hW
  have hA : DataW.TrodAll enc Try.prog W 0 (fun _ => true) true Try.f7.params.toList args.toList ds p := hA0
  rw [Try.params7] at hA hval
  obtain ⟨v0, vs0, d0, ds0, p0, q0, hargs, rfl, rfl, h0, r0⟩ := trodAll_cons hA
  obtain ⟨v1, vs1, d1, ds1, p1, q1, rfl, rfl, rfl, h1, r1⟩ := trodAll_cons r0
  obtain ⟨rfl, rfl, rfl⟩ := trodAll_nil r1
  obtain rfl : args = #[v0, v1] := by cases args; simp_all
  obtain ⟨rfl, rfl⟩ := trodVars_none hV
  obtain ⟨a0, rfl, rfl, rfl, w0⟩ := open_int Try.underlying2 (hval 0 2 v0 rfl rfl) h0
  obtain ⟨a1, rfl, rfl, rfl, w1⟩ := open_int Try.underlying3 (hval 1 3 v1 rfl rfl) h1
  clear hA0 hval0
  refine (walk a0 a1 w0 w1 W).mono fun e W' ⟨he, bel⟩ => ?_
  subst he
  exact ⟨_, rfl, _, _, _, [], [], [], hW', trodAll_mk1 (shut_bool Try.underlying4 _), (trodAll_cons_mk (shut_int Try.underlying2 w0) (trodAll_cons_mk (shut_int Try.underlying3 w1) trodAll_mk0)), rfl, bel.frame _, fun h => by cases h⟩

theorem over : Rows.octalWidthRow.holds Try.pinned (OpenSpec.ofChange Rows.octalWidthSpec) :=
  OpenClaim.holds_of_wide 7 Try.f7 rfl rfl rfl rfl rfl rfl rfl ⟨rfl, rfl, rfl, rfl, rfl⟩ rfl rfl rfl rfl rfl (by kernel_rfl) Try.func7 (by kernel_rfl)
    (of_decide_eq_true (by kernel_rfl)) (by unfold Func.isWrapper; first | (rw [if_pos (by decide +kernel)]; kernel_rfl) | (rw [if_neg (by decide +kernel)]; exact ⟨rfl, rfl⟩))
    (fun os started H enc _ => lifted os started H enc)

end Go.Proofs.Ytamdonhmholjpab.octalWidth
namespace Go.Proofs.Ytamdonhmholjpab
theorem octalWidth_holds : Rows.OctalWidthSaid := octalWidth.over
#print axioms octalWidth_holds
end Go.Proofs.Ytamdonhmholjpab
