/-
  The law KindTypes holds: it returns true for every byte.
-/
import Derived.Test.YtebnekkdkifgjabKinds
import Derived.WalkKit
import Derived.ProofKit
import Derived.OpenShut
namespace Go.Proofs.Ytebnekkdkifgjab.kindTypes
open Go.ChangeShapes Go.WideShapes Go.ChangeAt Go.RowKit
set_option linter.unusedVariables false

theorem own : ownKnob Try.prog.godebug = none := by kernel_rfl

set_option linter.unusedSimpArgs false
set_option maxHeartbeats 4000000 in
set_option maxRecDepth 20000 in
theorem walk (a0 : Int) (w0 : (Lit.int .u8 a0).wf = true) (w : World) :
    Calls Try.prog 3 #[.int .u8 a0] w fun e w' => e = .returned (.bool true) ∧ Grown w w' := by
  by_cases c0 : a0 = 0
  · subst c0
    clear w0
    have f1 : kd 0 = 1 := rfl
    have f2 : cl 0 = 1 := rfl
    have f3 : tk 0 = true := rfl
    go_enter Try.func3, Try.ntmps3
    go_wp2_with (first | (go_at_call 8; refine (knows_w _).mono ?_; rintro e w' ⟨rfl, rfl⟩) | (go_at_call 10; refine (kind_w _ _).mono ?_; rintro e w' ⟨rfl, rfl⟩) | (go_at_call 9; refine (class_w _ _).mono ?_; rintro e w' ⟨rfl, rfl⟩) | (go_at_call 12; refine (type_w _ _).mono ?_; rintro e w' ⟨rfl, rfl⟩) | (go_at_call 11; refine (takes_w _ _).mono ?_; rintro e w' ⟨rfl, rfl⟩))
    go_ret
    exact ⟨by first | rfl | simp [*], by repeat (first | exact Grown.refl _ | apply Grown.drew | apply Grown.alloc)⟩
  by_cases c48 : a0 = 48
  · subst c48
    clear w0
    have f1 : kd 48 = 1 := rfl
    have f2 : cl 48 = 1 := rfl
    have f3 : tk 48 = true := rfl
    go_enter Try.func3, Try.ntmps3
    go_wp2_with (first | (go_at_call 8; refine (knows_w _).mono ?_; rintro e w' ⟨rfl, rfl⟩) | (go_at_call 10; refine (kind_w _ _).mono ?_; rintro e w' ⟨rfl, rfl⟩) | (go_at_call 9; refine (class_w _ _).mono ?_; rintro e w' ⟨rfl, rfl⟩) | (go_at_call 12; refine (type_w _ _).mono ?_; rintro e w' ⟨rfl, rfl⟩) | (go_at_call 11; refine (takes_w _ _).mono ?_; rintro e w' ⟨rfl, rfl⟩))
    go_ret
    exact ⟨by first | rfl | simp [*], by repeat (first | exact Grown.refl _ | apply Grown.drew | apply Grown.alloc)⟩
  by_cases c55 : a0 = 55
  · subst c55
    clear w0
    have f1 : kd 55 = 1 := rfl
    have f2 : cl 55 = 1 := rfl
    have f3 : tk 55 = true := rfl
    go_enter Try.func3, Try.ntmps3
    go_wp2_with (first | (go_at_call 8; refine (knows_w _).mono ?_; rintro e w' ⟨rfl, rfl⟩) | (go_at_call 10; refine (kind_w _ _).mono ?_; rintro e w' ⟨rfl, rfl⟩) | (go_at_call 9; refine (class_w _ _).mono ?_; rintro e w' ⟨rfl, rfl⟩) | (go_at_call 12; refine (type_w _ _).mono ?_; rintro e w' ⟨rfl, rfl⟩) | (go_at_call 11; refine (takes_w _ _).mono ?_; rintro e w' ⟨rfl, rfl⟩))
    go_ret
    exact ⟨by first | rfl | simp [*], by repeat (first | exact Grown.refl _ | apply Grown.drew | apply Grown.alloc)⟩
  by_cases c49 : a0 = 49
  · subst c49
    clear w0
    have f1 : kd 49 = 2 := rfl
    have f2 : cl 49 = 1 := rfl
    have f3 : tk 49 = false := rfl
    go_enter Try.func3, Try.ntmps3
    go_wp2_with (first | (go_at_call 8; refine (knows_w _).mono ?_; rintro e w' ⟨rfl, rfl⟩) | (go_at_call 10; refine (kind_w _ _).mono ?_; rintro e w' ⟨rfl, rfl⟩) | (go_at_call 9; refine (class_w _ _).mono ?_; rintro e w' ⟨rfl, rfl⟩) | (go_at_call 12; refine (type_w _ _).mono ?_; rintro e w' ⟨rfl, rfl⟩) | (go_at_call 11; refine (takes_w _ _).mono ?_; rintro e w' ⟨rfl, rfl⟩))
    go_ret
    exact ⟨by first | rfl | simp [*], by repeat (first | exact Grown.refl _ | apply Grown.drew | apply Grown.alloc)⟩
  by_cases c50 : a0 = 50
  · subst c50
    clear w0
    have f1 : kd 50 = 3 := rfl
    have f2 : cl 50 = 1 := rfl
    have f3 : tk 50 = false := rfl
    go_enter Try.func3, Try.ntmps3
    go_wp2_with (first | (go_at_call 8; refine (knows_w _).mono ?_; rintro e w' ⟨rfl, rfl⟩) | (go_at_call 10; refine (kind_w _ _).mono ?_; rintro e w' ⟨rfl, rfl⟩) | (go_at_call 9; refine (class_w _ _).mono ?_; rintro e w' ⟨rfl, rfl⟩) | (go_at_call 12; refine (type_w _ _).mono ?_; rintro e w' ⟨rfl, rfl⟩) | (go_at_call 11; refine (takes_w _ _).mono ?_; rintro e w' ⟨rfl, rfl⟩))
    go_ret
    exact ⟨by first | rfl | simp [*], by repeat (first | exact Grown.refl _ | apply Grown.drew | apply Grown.alloc)⟩
  by_cases c53 : a0 = 53
  · subst c53
    clear w0
    have f1 : kd 53 = 4 := rfl
    have f2 : cl 53 = 1 := rfl
    have f3 : tk 53 = false := rfl
    go_enter Try.func3, Try.ntmps3
    go_wp2_with (first | (go_at_call 8; refine (knows_w _).mono ?_; rintro e w' ⟨rfl, rfl⟩) | (go_at_call 10; refine (kind_w _ _).mono ?_; rintro e w' ⟨rfl, rfl⟩) | (go_at_call 9; refine (class_w _ _).mono ?_; rintro e w' ⟨rfl, rfl⟩) | (go_at_call 12; refine (type_w _ _).mono ?_; rintro e w' ⟨rfl, rfl⟩) | (go_at_call 11; refine (takes_w _ _).mono ?_; rintro e w' ⟨rfl, rfl⟩))
    go_ret
    exact ⟨by first | rfl | simp [*], by repeat (first | exact Grown.refl _ | apply Grown.drew | apply Grown.alloc)⟩
  by_cases c120 : a0 = 120
  · subst c120
    clear w0
    have f1 : kd 120 = 0 := rfl
    have f2 : cl 120 = 2 := rfl
    have f3 : tk 120 = true := rfl
    go_enter Try.func3, Try.ntmps3
    go_wp2_with (first | (go_at_call 8; refine (knows_w _).mono ?_; rintro e w' ⟨rfl, rfl⟩) | (go_at_call 10; refine (kind_w _ _).mono ?_; rintro e w' ⟨rfl, rfl⟩) | (go_at_call 9; refine (class_w _ _).mono ?_; rintro e w' ⟨rfl, rfl⟩) | (go_at_call 12; refine (type_w _ _).mono ?_; rintro e w' ⟨rfl, rfl⟩) | (go_at_call 11; refine (takes_w _ _).mono ?_; rintro e w' ⟨rfl, rfl⟩))
    go_ret
    exact ⟨by first | rfl | simp [*], by repeat (first | exact Grown.refl _ | apply Grown.drew | apply Grown.alloc)⟩
  by_cases c103 : a0 = 103
  · subst c103
    clear w0
    have f1 : kd 103 = 0 := rfl
    have f2 : cl 103 = 3 := rfl
    have f3 : tk 103 = true := rfl
    go_enter Try.func3, Try.ntmps3
    go_wp2_with (first | (go_at_call 8; refine (knows_w _).mono ?_; rintro e w' ⟨rfl, rfl⟩) | (go_at_call 10; refine (kind_w _ _).mono ?_; rintro e w' ⟨rfl, rfl⟩) | (go_at_call 9; refine (class_w _ _).mono ?_; rintro e w' ⟨rfl, rfl⟩) | (go_at_call 12; refine (type_w _ _).mono ?_; rintro e w' ⟨rfl, rfl⟩) | (go_at_call 11; refine (takes_w _ _).mono ?_; rintro e w' ⟨rfl, rfl⟩))
    go_ret
    exact ⟨by first | rfl | simp [*], by repeat (first | exact Grown.refl _ | apply Grown.drew | apply Grown.alloc)⟩
  by_cases c76 : a0 = 76
  · subst c76
    clear w0
    have f1 : kd 76 = 0 := rfl
    have f2 : cl 76 = 4 := rfl
    have f3 : tk 76 = true := rfl
    go_enter Try.func3, Try.ntmps3
    go_wp2_with (first | (go_at_call 8; refine (knows_w _).mono ?_; rintro e w' ⟨rfl, rfl⟩) | (go_at_call 10; refine (kind_w _ _).mono ?_; rintro e w' ⟨rfl, rfl⟩) | (go_at_call 9; refine (class_w _ _).mono ?_; rintro e w' ⟨rfl, rfl⟩) | (go_at_call 12; refine (type_w _ _).mono ?_; rintro e w' ⟨rfl, rfl⟩) | (go_at_call 11; refine (takes_w _ _).mono ?_; rintro e w' ⟨rfl, rfl⟩))
    go_ret
    exact ⟨by first | rfl | simp [*], by repeat (first | exact Grown.refl _ | apply Grown.drew | apply Grown.alloc)⟩
  by_cases c75 : a0 = 75
  · subst c75
    clear w0
    have f1 : kd 75 = 0 := rfl
    have f2 : cl 75 = 5 := rfl
    have f3 : tk 75 = true := rfl
    go_enter Try.func3, Try.ntmps3
    go_wp2_with (first | (go_at_call 8; refine (knows_w _).mono ?_; rintro e w' ⟨rfl, rfl⟩) | (go_at_call 10; refine (kind_w _ _).mono ?_; rintro e w' ⟨rfl, rfl⟩) | (go_at_call 9; refine (class_w _ _).mono ?_; rintro e w' ⟨rfl, rfl⟩) | (go_at_call 12; refine (type_w _ _).mono ?_; rintro e w' ⟨rfl, rfl⟩) | (go_at_call 11; refine (takes_w _ _).mono ?_; rintro e w' ⟨rfl, rfl⟩))
    go_ret
    exact ⟨by first | rfl | simp [*], by repeat (first | exact Grown.refl _ | apply Grown.drew | apply Grown.alloc)⟩
  have f1 : kd a0 = 0 := by simp only [kd, c0, c48, c55, c49, c50, c53, c120, c103, c76, c75, if_false]
  have f2 : cl a0 = 0 := by simp only [cl, f1, c0, c48, c55, c49, c50, c53, c120, c103, c76, c75, if_false, if_true]
  have f3 : tk a0 = false := by simp [tk, f1, f2]
  go_enter Try.func3, Try.ntmps3
  go_wp2_with (first | (go_at_call 8; refine (knows_w _).mono ?_; rintro e w' ⟨rfl, rfl⟩) | (go_at_call 10; refine (kind_w _ _).mono ?_; rintro e w' ⟨rfl, rfl⟩) | (go_at_call 9; refine (class_w _ _).mono ?_; rintro e w' ⟨rfl, rfl⟩) | (go_at_call 12; refine (type_w _ _).mono ?_; rintro e w' ⟨rfl, rfl⟩) | (go_at_call 11; refine (takes_w _ _).mono ?_; rintro e w' ⟨rfl, rfl⟩))
  go_ret
  exact ⟨by first | rfl | simp [*], by repeat (first | exact Grown.refl _ | apply Grown.drew | apply Grown.alloc)⟩
set_option maxRecDepth 100000 in
theorem lifted (os : Os) (started : os.Started) (H : Type) (enc : TypeId × Value → H) :
    ReturnsInHanded {} Try.checked os 3 .any (Rows.kindTypesSpec.pre6 enc Try.prog Try.f3 Rows.kindTypesRow.domain false) (Rows.kindTypesSpec.post enc Try.prog Try.f3 false true false false) := by
  refine returnsInHanded_of_change (C := Try.checked) own started (by kernel_rfl) Try.func3
    (ChangeSpec.witness6 (enc := enc) (C := Try.checked) false ⟨#[], #[.int .u8 0], []⟩ 8 (by kernel_rfl) (by kernel_rfl) (by kernel_rfl) (by kernel_rfl)) ?_
  intro W base args ds gs before hval0 hW hcnd _
  have hval : ∀ (j : Nat) t v, Try.f3.params[j]? = some t → args[j]? = some v → Value.okWide Try.prog W .any base t v := hval0
  have hW' := hW
  obtain ⟨p, q, hA0, hV, rfl, hfz, hnd⟩ := hW
  have hA : DataW.TrodAll enc Try.prog W 0 (fun _ => true) true Try.f3.params.toList args.toList ds p := hA0
  rw [Try.params3] at hA hval
  obtain ⟨v0, vs0, d0, ds0, p0, q0, hargs, rfl, rfl, h0, r0⟩ := trodAll_cons hA
  obtain ⟨rfl, rfl, rfl⟩ := trodAll_nil r0
  obtain rfl : args = #[v0] := by cases args; simp_all
  obtain ⟨rfl, rfl⟩ := trodVars_none hV
  obtain ⟨a0, rfl, rfl, rfl, w0⟩ := open_int Try.underlying5 (hval 0 5 v0 rfl rfl) h0
  clear hA0 hval0
  simp only [List.append_nil] at hW'
  refine (walk a0 w0 W).mono fun e W' ⟨he, hg⟩ => ?_
  subst he
  exact ⟨_, rfl, post_of_same (pa := []) (pv := []) hW' (fun _ _ _ => (trodAll_cons_mk (shut_bool Try.underlying4 _) trodAll_mk0)) (fun sp _ => (trodAll_cons_mk (shut_int Try.underlying5 w0) trodAll_mk0)) (fun _ _ => rfl) rfl
    (hg.frame _) hg.2.1 (ok_one (by kernel_rfl) rfl (okWide_bool_mk Try.underlying4 _))⟩

theorem over : Rows.kindTypesRow.holds Try.pinned (OpenSpec.ofChange Rows.kindTypesSpec) :=
  OpenClaim.holds_of_wide 3 Try.f3 rfl rfl rfl rfl rfl rfl rfl ⟨rfl, rfl, rfl, rfl, rfl⟩ rfl rfl rfl rfl rfl (by kernel_rfl) Try.func3 (by kernel_rfl)
    (of_decide_eq_true (by kernel_rfl)) (by unfold Func.isWrapper; first | (rw [if_pos (by decide +kernel)]; kernel_rfl) | (rw [if_neg (by decide +kernel)]; exact ⟨rfl, rfl⟩))
    (fun os started H enc _ => lifted os started H enc)

theorem proved : Rows.KindTypesSaid :=
  over
end Go.Proofs.Ytebnekkdkifgjab.kindTypes
namespace Go.Proofs.Ytebnekkdkifgjab
theorem kindTypes_holds : Rows.KindTypesSaid := kindTypes.proved
#print axioms kindTypes_holds
end Go.Proofs.Ytebnekkdkifgjab
