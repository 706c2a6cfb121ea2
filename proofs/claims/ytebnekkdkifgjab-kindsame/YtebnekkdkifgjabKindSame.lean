/-
  The law KindSame holds: it returns true for every two bytes.
-/
import Derived.Test.YtebnekkdkifgjabKinds
import Derived.WalkKit
import Derived.ProofKit
import Derived.OpenShut
namespace Go.Proofs.Ytebnekkdkifgjab.kindSame
open Go.ChangeShapes Go.WideShapes Go.ChangeAt Go.RowKit
set_option linter.unusedVariables false

theorem own : ownKnob Try.prog.godebug = none := by kernel_rfl

theorem kd_range (a : Int) : 0 ≤ kd a ∧ kd a ≤ 4 := by
  unfold kd
  repeat' split
  all_goals omega
theorem cl_of (a : Int) (h : ¬ kd a = 0) : cl a = 1 := by
  have h' := h
  unfold kd at h'
  have : a = 0 ∨ a = 55 ∨ a = 48 ∨ a = 49 ∨ a = 50 ∨ a = 53 := by
    repeat' split at h'
    all_goals simp_all
  rcases this with rfl | rfl | rfl | rfl | rfl | rfl <;> rfl
theorem tk_of (a : Int) (h : ¬ kd a = 0) : tk a = (kd a == 1) := by
  unfold tk
  rw [cl_of a h]
  rfl
theorem kd_ty (z : Int) (h0 : 1 ≤ z) (h1 : z ≤ 4) : kd (ty z) = z := by
  have : z = 1 ∨ z = 2 ∨ z = 3 ∨ z = 4 := by omega
  rcases this with rfl | rfl | rfl | rfl <;> rfl
theorem ty_inj (x y : Int) (hx : 0 ≤ x ∧ x ≤ 4) (hy : 0 ≤ y ∧ y ≤ 4) (h : ¬ x = y) : ¬ ty x = ty y := by
  have h1 : x = 0 ∨ x = 1 ∨ x = 2 ∨ x = 3 ∨ x = 4 := by omega
  have h2 : y = 0 ∨ y = 1 ∨ y = 2 ∨ y = 3 ∨ y = 4 := by omega
  rcases h1 with rfl | rfl | rfl | rfl | rfl <;> rcases h2 with rfl | rfl | rfl | rfl | rfl <;> first | (exact absurd rfl h) | decide

set_option linter.unusedSimpArgs false
set_option maxHeartbeats 4000000 in
set_option maxRecDepth 20000 in
theorem walk (a0 : Int) (a1 : Int) (w0 : (Lit.int .u8 a0).wf = true) (w1 : (Lit.int .u8 a1).wf = true) (w : World) :
    Calls Try.prog 6 #[.int .u8 a0, .int .u8 a1] w fun e w' => e = .returned (.bool true) ∧ Grown w w' := by
  by_cases h0 : kd a0 = 0
  · go_enter Try.func6, Try.ntmps6
    go_wp2_with (first | (go_at_call 8; refine (knows_w _).mono ?_; rintro e w' ⟨rfl, rfl⟩) | (go_at_call 10; refine (kind_w _ _).mono ?_; rintro e w' ⟨rfl, rfl⟩) | (go_at_call 9; refine (class_w _ _).mono ?_; rintro e w' ⟨rfl, rfl⟩) | (go_at_call 12; refine (type_w _ _).mono ?_; rintro e w' ⟨rfl, rfl⟩) | (go_at_call 11; refine (takes_w _ _).mono ?_; rintro e w' ⟨rfl, rfl⟩))
    go_ret
    exact ⟨by first | rfl | simp [*], by repeat (first | exact Grown.refl _ | apply Grown.drew | apply Grown.alloc)⟩
  have r0 := kd_range a0
  have r1 := kd_range a1
  by_cases h1 : kd a0 = kd a1
  · have g1 := tk_of a0 h0
    have g2 := tk_of a1 (by omega)
    have g3 := cl_of a0 h0
    have g4 := cl_of a1 (by omega)
    have g5 := kd_ty (kd a0) (by omega) (by omega)
    rw [← h1] at g2
    have h1' : kd a1 = kd a0 := h1.symm
    clear h1 r1
    have r : kd a0 = 1 ∨ kd a0 = 2 ∨ kd a0 = 3 ∨ kd a0 = 4 := by omega
    clear r0 h0
    rcases r with r | r | r | r
    all_goals
      rw [r] at h1' g1 g2 g5
      have e1 : ((1 : Int) == 1) = true := rfl
      have e2 : ((2 : Int) == 1) = false := rfl
      have e3 : ((3 : Int) == 1) = false := rfl
      have e4 : ((4 : Int) == 1) = false := rfl
      simp only [e1, e2, e3, e4] at g1 g2
      go_enter Try.func6, Try.ntmps6
      go_wp2_with (first | (go_at_call 8; refine (knows_w _).mono ?_; rintro e w' ⟨rfl, rfl⟩) | (go_at_call 10; refine (kind_w _ _).mono ?_; rintro e w' ⟨rfl, rfl⟩) | (go_at_call 9; refine (class_w _ _).mono ?_; rintro e w' ⟨rfl, rfl⟩) | (go_at_call 12; refine (type_w _ _).mono ?_; rintro e w' ⟨rfl, rfl⟩) | (go_at_call 11; refine (takes_w _ _).mono ?_; rintro e w' ⟨rfl, rfl⟩))
      go_ret
      exact ⟨by first | rfl | simp [*], by repeat (first | exact Grown.refl _ | apply Grown.drew | apply Grown.alloc)⟩
  · have g := ty_inj (kd a0) (kd a1) r0 r1 h1
    have b1 : (kd a0 == 0) = false := beq_eq_false_iff_ne.2 h0
    have b2 : (kd a0 != kd a1) = true := by simp [h1]
    have b3 : (ty (kd a0) != ty (kd a1)) = true := by simp [g]
    go_enter Try.func6, Try.ntmps6
    go_wp2_with (first | (go_at_call 8; refine (knows_w _).mono ?_; rintro e w' ⟨rfl, rfl⟩) | (go_at_call 10; refine (kind_w _ _).mono ?_; rintro e w' ⟨rfl, rfl⟩) | (go_at_call 9; refine (class_w _ _).mono ?_; rintro e w' ⟨rfl, rfl⟩) | (go_at_call 12; refine (type_w _ _).mono ?_; rintro e w' ⟨rfl, rfl⟩) | (go_at_call 11; refine (takes_w _ _).mono ?_; rintro e w' ⟨rfl, rfl⟩))
    go_ret
    exact ⟨by first | rfl | simp [*], by repeat (first | exact Grown.refl _ | apply Grown.drew | apply Grown.alloc)⟩
set_option maxRecDepth 100000 in
theorem lifted (os : Os) (started : os.Started) (H : Type) (enc : TypeId × Value → H) :
    ReturnsInHanded {} Try.checked os 6 .any (Rows.kindSameSpec.pre6 enc Try.prog Try.f6 Rows.kindSameRow.domain false) (Rows.kindSameSpec.post enc Try.prog Try.f6 false true false false) := by
  refine returnsInHanded_of_change (C := Try.checked) own started (by kernel_rfl) Try.func6
    (ChangeSpec.witness6 (enc := enc) (C := Try.checked) false ⟨#[], #[.int .u8 0, .int .u8 0], []⟩ 8 (by kernel_rfl) (by kernel_rfl) (by kernel_rfl) (by kernel_rfl)) ?_
  intro W base args ds gs before hval0 hW hcnd _
  have hval : ∀ (j : Nat) t v, Try.f6.params[j]? = some t → args[j]? = some v → Value.okWide Try.prog W .any base t v := hval0
  have hW' := hW
  obtain ⟨p, q, hA0, hV, rfl, hfz, hnd⟩ := hW
  have hA : DataW.TrodAll enc Try.prog W 0 (fun _ => true) true Try.f6.params.toList args.toList ds p := hA0
  rw [Try.params6] at hA hval
  obtain ⟨v0, vs0, d0, ds0, p0, q0, hargs, rfl, rfl, h0, r0⟩ := trodAll_cons hA
  obtain ⟨v1, vs1, d1, ds1, p1, q1, rfl, rfl, rfl, h1, r1⟩ := trodAll_cons r0
  obtain ⟨rfl, rfl, rfl⟩ := trodAll_nil r1
  obtain rfl : args = #[v0, v1] := by cases args; simp_all
  obtain ⟨rfl, rfl⟩ := trodVars_none hV
  obtain ⟨a0, rfl, rfl, rfl, w0⟩ := open_int Try.underlying5 (hval 0 5 v0 rfl rfl) h0
  obtain ⟨a1, rfl, rfl, rfl, w1⟩ := open_int Try.underlying5 (hval 1 5 v1 rfl rfl) h1
  clear hA0 hval0
  simp only [List.append_nil] at hW'
  refine (walk a0 a1 w0 w1 W).mono fun e W' ⟨he, hg⟩ => ?_
  subst he
  exact ⟨_, rfl, post_of_same (pa := []) (pv := []) hW' (fun _ _ _ => (trodAll_cons_mk (shut_bool Try.underlying4 _) trodAll_mk0)) (fun sp _ => (trodAll_cons_mk (shut_int Try.underlying5 w0) (trodAll_cons_mk (shut_int Try.underlying5 w1) trodAll_mk0))) (fun _ _ => rfl) rfl
    (hg.frame _) hg.2.1 (ok_one (by kernel_rfl) rfl (okWide_bool_mk Try.underlying4 _))⟩

theorem over : Rows.kindSameRow.holds Try.pinned (OpenSpec.ofChange Rows.kindSameSpec) :=
  OpenClaim.holds_of_wide 6 Try.f6 rfl rfl rfl rfl rfl rfl rfl ⟨rfl, rfl, rfl, rfl, rfl⟩ rfl rfl rfl rfl rfl (by kernel_rfl) Try.func6 (by kernel_rfl)
    (of_decide_eq_true (by kernel_rfl)) (by unfold Func.isWrapper; first | (rw [if_pos (by decide +kernel)]; kernel_rfl) | (rw [if_neg (by decide +kernel)]; exact ⟨rfl, rfl⟩))
    (fun os started H enc _ => lifted os started H enc)

theorem proved : Rows.KindSameSaid :=
  over
end Go.Proofs.Ytebnekkdkifgjab.kindSame
namespace Go.Proofs.Ytebnekkdkifgjab
theorem kindSame_holds : Rows.KindSameSaid := kindSame.proved
#print axioms kindSame_holds
end Go.Proofs.Ytebnekkdkifgjab
