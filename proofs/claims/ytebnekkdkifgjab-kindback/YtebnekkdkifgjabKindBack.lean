/-
  The law KindBack holds: it returns true for every number.
-/
import Derived.Test.YtebnekkdkifgjabKinds
import Derived.WalkKit
import Derived.ProofKit
import Derived.OpenShut
namespace Go.Proofs.Ytebnekkdkifgjab.kindBack
open Go.ChangeShapes Go.WideShapes Go.ChangeAt Go.RowKit
set_option linter.unusedVariables false

theorem own : ownKnob Try.prog.godebug = none := by kernel_rfl

set_option linter.unusedSimpArgs false
set_option maxHeartbeats 4000000 in
set_option maxRecDepth 20000 in
theorem walk (a0 : Int) (w0 : (Lit.int .i64 a0).wf = true) (w : World) :
    Calls Try.prog 4 #[.int .i64 a0] w fun e w' => e = .returned (.bool true) ∧ Grown w w' := by
  by_cases c1 : a0 = 1
  · subst c1
    clear w0
    have f0 : ty 1 = 48 := rfl
    have f1 : kd 48 = 1 := rfl
    have f2 : cl 48 = 1 := rfl
    have f3 : tk 48 = true := rfl
    go_enter Try.func4, Try.ntmps4
    go_wp2_with (first | (go_at_call 8; refine (knows_w _).mono ?_; rintro e w' ⟨rfl, rfl⟩) | (go_at_call 10; refine (kind_w _ _).mono ?_; rintro e w' ⟨rfl, rfl⟩) | (go_at_call 9; refine (class_w _ _).mono ?_; rintro e w' ⟨rfl, rfl⟩) | (go_at_call 12; refine (type_w _ _).mono ?_; rintro e w' ⟨rfl, rfl⟩) | (go_at_call 11; refine (takes_w _ _).mono ?_; rintro e w' ⟨rfl, rfl⟩))
    go_ret
    exact ⟨by first | rfl | simp [*], by repeat (first | exact Grown.refl _ | apply Grown.drew | apply Grown.alloc)⟩
  by_cases c2 : a0 = 2
  · subst c2
    clear w0
    have f0 : ty 2 = 49 := rfl
    have f1 : kd 49 = 2 := rfl
    have f2 : cl 49 = 1 := rfl
    have f3 : tk 49 = false := rfl
    go_enter Try.func4, Try.ntmps4
    go_wp2_with (first | (go_at_call 8; refine (knows_w _).mono ?_; rintro e w' ⟨rfl, rfl⟩) | (go_at_call 10; refine (kind_w _ _).mono ?_; rintro e w' ⟨rfl, rfl⟩) | (go_at_call 9; refine (class_w _ _).mono ?_; rintro e w' ⟨rfl, rfl⟩) | (go_at_call 12; refine (type_w _ _).mono ?_; rintro e w' ⟨rfl, rfl⟩) | (go_at_call 11; refine (takes_w _ _).mono ?_; rintro e w' ⟨rfl, rfl⟩))
    go_ret
    exact ⟨by first | rfl | simp [*], by repeat (first | exact Grown.refl _ | apply Grown.drew | apply Grown.alloc)⟩
  by_cases c3 : a0 = 3
  · subst c3
    clear w0
    have f0 : ty 3 = 50 := rfl
    have f1 : kd 50 = 3 := rfl
    have f2 : cl 50 = 1 := rfl
    have f3 : tk 50 = false := rfl
    go_enter Try.func4, Try.ntmps4
    go_wp2_with (first | (go_at_call 8; refine (knows_w _).mono ?_; rintro e w' ⟨rfl, rfl⟩) | (go_at_call 10; refine (kind_w _ _).mono ?_; rintro e w' ⟨rfl, rfl⟩) | (go_at_call 9; refine (class_w _ _).mono ?_; rintro e w' ⟨rfl, rfl⟩) | (go_at_call 12; refine (type_w _ _).mono ?_; rintro e w' ⟨rfl, rfl⟩) | (go_at_call 11; refine (takes_w _ _).mono ?_; rintro e w' ⟨rfl, rfl⟩))
    go_ret
    exact ⟨by first | rfl | simp [*], by repeat (first | exact Grown.refl _ | apply Grown.drew | apply Grown.alloc)⟩
  by_cases c4 : a0 = 4
  · subst c4
    clear w0
    have f0 : ty 4 = 53 := rfl
    have f1 : kd 53 = 4 := rfl
    have f2 : cl 53 = 1 := rfl
    have f3 : tk 53 = false := rfl
    go_enter Try.func4, Try.ntmps4
    go_wp2_with (first | (go_at_call 8; refine (knows_w _).mono ?_; rintro e w' ⟨rfl, rfl⟩) | (go_at_call 10; refine (kind_w _ _).mono ?_; rintro e w' ⟨rfl, rfl⟩) | (go_at_call 9; refine (class_w _ _).mono ?_; rintro e w' ⟨rfl, rfl⟩) | (go_at_call 12; refine (type_w _ _).mono ?_; rintro e w' ⟨rfl, rfl⟩) | (go_at_call 11; refine (takes_w _ _).mono ?_; rintro e w' ⟨rfl, rfl⟩))
    go_ret
    exact ⟨by first | rfl | simp [*], by repeat (first | exact Grown.refl _ | apply Grown.drew | apply Grown.alloc)⟩
  have f0 : ty a0 = 0 := by simp only [ty, c1, c2, c3, c4, if_false]
  by_cases d : a0 < 1
  · go_enter Try.func4, Try.ntmps4
    go_wp2_with (first | (go_at_call 8; refine (knows_w _).mono ?_; rintro e w' ⟨rfl, rfl⟩) | (go_at_call 10; refine (kind_w _ _).mono ?_; rintro e w' ⟨rfl, rfl⟩) | (go_at_call 9; refine (class_w _ _).mono ?_; rintro e w' ⟨rfl, rfl⟩) | (go_at_call 12; refine (type_w _ _).mono ?_; rintro e w' ⟨rfl, rfl⟩) | (go_at_call 11; refine (takes_w _ _).mono ?_; rintro e w' ⟨rfl, rfl⟩))
    go_ret
    exact ⟨by first | rfl | simp [*], by repeat (first | exact Grown.refl _ | apply Grown.drew | apply Grown.alloc)⟩
  have d2 : 4 < a0 := by omega
  go_enter Try.func4, Try.ntmps4
  go_wp2_with (first | (go_at_call 8; refine (knows_w _).mono ?_; rintro e w' ⟨rfl, rfl⟩) | (go_at_call 10; refine (kind_w _ _).mono ?_; rintro e w' ⟨rfl, rfl⟩) | (go_at_call 9; refine (class_w _ _).mono ?_; rintro e w' ⟨rfl, rfl⟩) | (go_at_call 12; refine (type_w _ _).mono ?_; rintro e w' ⟨rfl, rfl⟩) | (go_at_call 11; refine (takes_w _ _).mono ?_; rintro e w' ⟨rfl, rfl⟩))
  go_ret
  exact ⟨by first | rfl | simp [*], by repeat (first | exact Grown.refl _ | apply Grown.drew | apply Grown.alloc)⟩
set_option maxRecDepth 100000 in
theorem lifted (os : Os) (started : os.Started) (H : Type) (enc : TypeId × Value → H) :
    ReturnsInHanded {} Try.checked os 4 .any (Rows.kindBackSpec.pre6 enc Try.prog Try.f4 Rows.kindBackRow.domain false) (Rows.kindBackSpec.post enc Try.prog Try.f4 false true false false) := by
  refine returnsInHanded_of_change (C := Try.checked) own started (by kernel_rfl) Try.func4
    (ChangeSpec.witness6 (enc := enc) (C := Try.checked) false ⟨#[], #[.int .i64 0], []⟩ 8 (by kernel_rfl) (by kernel_rfl) (by kernel_rfl) (by kernel_rfl)) ?_
  intro W base args ds gs before hval0 hW hcnd _
  have hval : ∀ (j : Nat) t v, Try.f4.params[j]? = some t → args[j]? = some v → Value.okWide Try.prog W .any base t v := hval0
  have hW' := hW
  obtain ⟨p, q, hA0, hV, rfl, hfz, hnd⟩ := hW
  have hA : DataW.TrodAll enc Try.prog W 0 (fun _ => true) true Try.f4.params.toList args.toList ds p := hA0
  rw [Try.params4] at hA hval
  obtain ⟨v0, vs0, d0, ds0, p0, q0, hargs, rfl, rfl, h0, r0⟩ := trodAll_cons hA
  obtain ⟨rfl, rfl, rfl⟩ := trodAll_nil r0
  obtain rfl : args = #[v0] := by cases args; simp_all
  obtain ⟨rfl, rfl⟩ := trodVars_none hV
  obtain ⟨a0, rfl, rfl, rfl, w0⟩ := open_int Try.underlying3 (hval 0 3 v0 rfl rfl) h0
  clear hA0 hval0
  simp only [List.append_nil] at hW'
  refine (walk a0 w0 W).mono fun e W' ⟨he, hg⟩ => ?_
  subst he
  exact ⟨_, rfl, post_of_same (pa := []) (pv := []) hW' (fun _ _ _ => (trodAll_cons_mk (shut_bool Try.underlying4 _) trodAll_mk0)) (fun sp _ => (trodAll_cons_mk (shut_int Try.underlying3 w0) trodAll_mk0)) (fun _ _ => rfl) rfl
    (hg.frame _) hg.2.1 (ok_one (by kernel_rfl) rfl (okWide_bool_mk Try.underlying4 _))⟩

theorem over : Rows.kindBackRow.holds Try.pinned (OpenSpec.ofChange Rows.kindBackSpec) :=
  OpenClaim.holds_of_wide 4 Try.f4 rfl rfl rfl rfl rfl rfl rfl ⟨rfl, rfl, rfl, rfl, rfl⟩ rfl rfl rfl rfl rfl (by kernel_rfl) Try.func4 (by kernel_rfl)
    (of_decide_eq_true (by kernel_rfl)) (by unfold Func.isWrapper; first | (rw [if_pos (by decide +kernel)]; kernel_rfl) | (rw [if_neg (by decide +kernel)]; exact ⟨rfl, rfl⟩))
    (fun os started H enc _ => lifted os started H enc)

theorem proved : Rows.KindBackSaid :=
  over
end Go.Proofs.Ytebnekkdkifgjab.kindBack
namespace Go.Proofs.Ytebnekkdkifgjab
theorem kindBack_holds : Rows.KindBackSaid := kindBack.proved
#print axioms kindBack_holds
end Go.Proofs.Ytebnekkdkifgjab
