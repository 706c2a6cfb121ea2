/-
  The law SumOf returns true for every bytes; no condition.
-/
import Derived.Test.YtmholjjicklnhaaRows
import Derived.Test.YtmholjjicklnhaaRef5
import Derived.Test.YtmholjjicklnhaaCopied
import Derived.Deep.RegionHeld3
import Derived.ProofKit
import Derived.OpenShut
import Derived.ShutString
import Derived.ChangeOld
import Derived.Below
namespace Go.Proofs.Ytmholjjicklnhaa.sumOf
open Go.ChangeShapes Go.WideShapes Go.ChangeAt Go.RowKit
set_option linter.unusedVariables false
set_option linter.unusedSimpArgs false


theorem add_nil (a : Option Addr) (cap cl : Nat) (w : World) : Calls Try.prog 17 #[.slice a 0 cap, .func (.func cl) #[] #[]] w fun e w' => e = .returned (.int .i64 0) ∧ w = w' := by
  go_enter Try.func17, Try.ntmps17
  go_wp2
  refine wp_loop_rounds 1 ?_
  rw [rounds_succ]
  go_wp2
  go_ret
  exact ⟨rfl, rfl⟩

theorem plain_nil (a : Option Addr) (cap : Nat) (w : World) : Calls Try.prog 10 #[.slice a 0 cap] w fun e w' => e = .returned (.int .i64 0) ∧ w = w' := by
  have q := add_nil a cap 18 w
  go_enter Try.func10, Try.ntmps10
  go_wp2_with fail
  refine q.mono ?_
  rintro e w' ⟨rfl, rfl⟩
  go_wp2
  go_ret
  exact ⟨rfl, rfl⟩

theorem signed_nil (a : Option Addr) (cap : Nat) (w : World) : Calls Try.prog 12 #[.slice a 0 cap] w fun e w' => e = .returned (.int .i64 0) ∧ w = w' := by
  have q := add_nil a cap 20 w
  go_enter Try.func12, Try.ntmps12
  go_wp2_with fail
  refine q.mono ?_
  rintro e w' ⟨rfl, rfl⟩
  go_wp2
  go_ret
  exact ⟨rfl, rfl⟩

theorem plain_any (a : Option Addr) (cap : Nat) (zs : List Int) (w : World) (hb : AllB zs) (hl : zs.length ≤ 2000) (hs : Src w a zs) :
    Calls Try.prog 10 #[.slice a zs.length cap] w fun e w' => e = .returned (.int .i64 (plainS zs)) ∧ Below w.heap.size w w' := by
  by_cases h0 : zs.length = 0
  · obtain rfl : zs = [] := List.eq_nil_of_length_eq_zero h0
    exact (plain_nil a cap w).mono fun e w' h => ⟨h.1, h.2 ▸ Below.refl _ _⟩
  · obtain ⟨ad, rfl⟩ := hs.has (by omega)
    exact (plain_w ad cap zs w hb hl hs).mono fun e w' h => ⟨h.1, h.2 ▸ Below.refl _ _⟩

theorem signed_any (a : Option Addr) (cap : Nat) (zs : List Int) (w : World) (hb : AllB zs) (hl : zs.length ≤ 2000) (hs : Src w a zs) :
    Calls Try.prog 12 #[.slice a zs.length cap] w fun e w' => e = .returned (.int .i64 (signedS zs)) ∧ Below w.heap.size w w' := by
  by_cases h0 : zs.length = 0
  · obtain rfl : zs = [] := List.eq_nil_of_length_eq_zero h0
    exact (signed_nil a cap w).mono fun e w' h => ⟨h.1, h.2 ▸ Below.refl _ _⟩
  · obtain ⟨ad, rfl⟩ := hs.has (by omega)
    exact (signed_w ad cap zs w hb hl hs).mono fun e w' h => ⟨h.1, h.2 ▸ Below.refl _ _⟩

theorem right_any (a : Option Addr) (cap : Nat) (zs : List Int) (w : World) (hb : AllB zs) (hl : zs.length ≤ 2000) (hc : zs.length ≤ cap) (hc2 : cap ≤ 9223372036854775807) (hs : Src w a zs) :
    Calls Try.prog 14 #[.slice a zs.length cap] w fun e w' => e = .returned (.bool (rightB zs)) ∧ Below w.heap.size w w' := by
  by_cases h0 : zs.length = 512
  · obtain ⟨ad, rfl⟩ := hs.has (by omega)
    have := right_yes ad cap zs w hb h0 (by omega) hc2 hs
    rw [h0]
    exact this.mono fun e w' h => ⟨h.1, h.2 ▸ Below.refl _ _⟩
  · have e : rightB zs = false := by simp [rightB, h0]
    rw [e]
    exact (right_no a _ cap w h0 (by omega)).mono fun e w' h => ⟨h.1, h.2 ▸ Below.refl _ _⟩

theorem refright_any (zs : List Int) (w : World) (hb : AllB zs) (hl : zs.length ≤ 2000) :
    Calls Try.prog 15 #[.string (strOf zs)] w fun e w' => e = .returned (.bool (rightB zs)) ∧ Below w.heap.size w w' := by
  by_cases h0 : zs.length = 512
  · exact refright_yes zs w hb h0
  · have e : rightB zs = false := by simp [rightB, h0]
    rw [e]
    exact refright_no zs w h0 hl

def St (w W : World) : Prop := Below w.heap.size w W
theorem St.step {w W W' : World} (h : St w W) (b : Below W.heap.size W W') : St w W' := Below.trans h (b.mono h.size)
theorem St.drew {w W : World} (h : St w W) : St w W.drew := Below.drew h

set_option maxRecDepth 100000 in
set_option maxHeartbeats 4000000 in
theorem walk_yes (a : Option Addr) (cap : Nat) (zs : List Int) (w : World) (hb : AllB zs) (hl : zs.length ≤ 2000) (hc : zs.length ≤ cap) (hc2 : cap ≤ 9223372036854775807) (hs : Src w a zs) :
    Calls Try.prog 3 #[.slice a zs.length cap] w fun e w' => e = .returned (.bool true) ∧ Below w.heap.size w w' := by
  have HL : Hid (∀ W, St w W → (convert 22 9 (.slice a zs.length cap)).run Try.prog W = .ok (.string (strOf zs)) W) := fun W h => conv_src W a zs _ cap rfl (hs.grow h)
  have n1 : ∀ W, St w W → Calls Try.prog 10 #[.slice a zs.length cap] W fun e w' => e = .returned (.int .i64 (plainS zs)) ∧ Below W.heap.size W w' := fun W h => plain_any a cap zs W hb hl (hs.grow h)
  have n2 : ∀ W, Calls Try.prog 11 #[.string (strOf zs)] W fun e w' => e = .returned (.int .i64 (plainS zs)) ∧ Below W.heap.size W w' := fun W => refplain_w zs W hb hl
  have n3 : ∀ W, St w W → Calls Try.prog 12 #[.slice a zs.length cap] W fun e w' => e = .returned (.int .i64 (signedS zs)) ∧ Below W.heap.size W w' := fun W h => signed_any a cap zs W hb hl (hs.grow h)
  have n4 : ∀ W, Calls Try.prog 13 #[.string (strOf zs)] W fun e w' => e = .returned (.int .i64 (signedS zs)) ∧ Below W.heap.size W w' := fun W => refsigned_w zs W hb hl
  have n5 : ∀ W, St w W → Calls Try.prog 14 #[.slice a zs.length cap] W fun e w' => e = .returned (.bool (rightB zs)) ∧ Below W.heap.size W w' := fun W h => right_any a cap zs W hb hl hc hc2 (hs.grow h)
  have n6 : ∀ W, Calls Try.prog 15 #[.string (strOf zs)] W fun e w' => e = .returned (.bool (rightB zs)) ∧ Below W.heap.size W w' := fun W => refright_any zs W hb hl
  have hl' : ¬ (2000 : Int) < (zs.length : Int) := by omega
  clear hs hb
  generalize plainS zs = p at *
  generalize signedS zs = sn at *
  generalize rightB zs = r at *
  generalize strOf zs = S at *
  generalize zs.length = n at *
  go_enter Try.func3, Try.ntmps3
  go_wp2_with fail
  refine (head_ok w).mono ?_
  rintro e w1 ⟨rfl, hb1⟩
  have h1 : St w w1 := hb1
  have k1 := HL.out _ h1
  clear hb1
  go_wp2_with fail
  go_region_held3 (fun W => St w W ∧ (convert 22 9 (.slice a n cap)).run Try.prog W = .ok (.string S) W) (first | exact ⟨by assumption, by assumption⟩ | exact ⟨St.drew (by assumption), HL.out _ (St.drew (by assumption))⟩ | exact ⟨And.left (by assumption), And.right (by assumption)⟩ | go_keep) (first
    | (go_at_call 10; refine (n1 _ (by first | assumption | exact And.left (by assumption) | exact St.drew (by assumption))).mono ?_; rintro ev wa ⟨rfl, hb⟩; have hs := St.step (by first | assumption | exact And.left (by assumption) | exact St.drew (by assumption)) hb; have hcx := HL.out _ hs; clear hb)
    | (go_at_call 11; refine (n2 _).mono ?_; rintro ev wa ⟨rfl, hb⟩; have hs := St.step (by first | assumption | exact And.left (by assumption) | exact St.drew (by assumption)) hb; have hcx := HL.out _ hs; clear hb)
    | (go_at_call 12; refine (n3 _ (by first | assumption | exact And.left (by assumption) | exact St.drew (by assumption))).mono ?_; rintro ev wa ⟨rfl, hb⟩; have hs := St.step (by first | assumption | exact And.left (by assumption) | exact St.drew (by assumption)) hb; have hcx := HL.out _ hs; clear hb)
    | (go_at_call 13; refine (n4 _).mono ?_; rintro ev wa ⟨rfl, hb⟩; have hs := St.step (by first | assumption | exact And.left (by assumption) | exact St.drew (by assumption)) hb; have hcx := HL.out _ hs; clear hb)
    | (go_at_call 14; refine (n5 _ (by first | assumption | exact And.left (by assumption) | exact St.drew (by assumption))).mono ?_; rintro ev wa ⟨rfl, hb⟩; have hs := St.step (by first | assumption | exact And.left (by assumption) | exact St.drew (by assumption)) hb; have hcx := HL.out _ hs; clear hb)
    | (go_at_call 15; refine (n6 _).mono ?_; rintro ev wa ⟨rfl, hb⟩; have hs := St.step (by first | assumption | exact And.left (by assumption) | exact St.drew (by assumption)) hb; have hcx := HL.out _ hs; clear hb))
  all_goals (go_wp2; go_ret; first | exact ⟨by simp, by assumption⟩ | exact ⟨by simp, And.left (by assumption)⟩)

theorem walk_long (a : Option Addr) (n cap : Nat) (w : World) (h : 2000 < n) (h1 : n ≤ 9223372036854775807) :
    Calls Try.prog 3 #[.slice a n cap] w fun e w' => e = .returned (.bool true) ∧ Below w.heap.size w w' := by
  have h2 : (2000 : Int) < (n : Int) := by omega
  go_enter Try.func3, Try.ntmps3
  go_wp2_with (go_at_call 9; refine (head_ok _).mono ?_; rintro e w1 ⟨rfl, hb1⟩)
  go_ret
  exact ⟨rfl, hb1⟩

theorem walk (a : Option Addr) (l cap : Nat) (zs : List Int) (w : World) (hr : IsRow .u8 w a l cap zs) :
    Calls Try.prog 3 #[.slice a l cap] w fun e w' => e = .returned (.bool true) ∧ Below w.heap.size w w' := by
  obtain ⟨hs, hl, hcap, hmax, hall, hnone⟩ := row_src hr
  by_cases c : 2000 < l
  · exact walk_long a l cap w c (by omega)
  · have := walk_yes a cap (zs.take l) w hall (by omega) (by omega) (by omega) hs
    rw [hl] at this
    exact this

theorem own : ownKnob Try.prog.godebug = none := by kernel_rfl
theorem laidOut : laidOutB Try.prog = true := by kernel_rfl
set_option maxRecDepth 100000 in
theorem lifted (os : Os) (started : os.Started) (H : Type) (enc : TypeId × Value → H) :
    ReturnsInHanded {} Try.checked os 3 .any (Rows.sumOfSpec.pre6 enc Try.prog Try.f3 Rows.sumOfRow.domain false) (Rows.sumOfSpec.post enc Try.prog Try.f3 false true false false) := by
  refine returnsInHanded_of_change (C := Try.checked) own started (by kernel_rfl) Try.func3
    (ChangeSpec.witness6 (enc := enc) (C := Try.checked) false ⟨#[], #[.slice none 0 0], []⟩ 8 (by kernel_rfl) (by kernel_rfl) (by kernel_rfl) (by kernel_rfl)) ?_
  intro W base args ds gs before hval0 hW hcnd _
  have hval : ∀ (j : Nat) t v, Try.f3.params[j]? = some t → args[j]? = some v → Value.okWide Try.prog W .any base t v := hval0
  have hW' := hW
  obtain ⟨p, q, hA0, hV, rfl, hfz, hnd⟩ := hW
  have hA : DataW.TrodAll enc Try.prog W 0 (fun _ => true) true Try.f3.params.toList args.toList ds p := hA0
  rw [Try.params3] at hA hval
  obtain ⟨v0, vs0, d0, ds0, p0, q0, hargs, rfl, rfl, h0, r0⟩ := trodAll_cons hA
  obtain ⟨rfl, rfl, rfl⟩ := trodAll_nil r0
  obtain rfl : args = #[v0] := by cases args; simp_all
  obtain ⟨rfl, rfl⟩ := trodVars_none hV
  obtain ⟨a0, len0, cap0, rfl⟩ := okWide_slice Try.underlying22 (hval 0 22 v0 rfl rfl)
  have k0 := h0
  have lt0 : ∀ x ∈ p0, x.block < W.heap.size := by obtain ⟨m, hm⟩ := k0; exact DataW.trod_lt m _ _ _ hm
  obtain ⟨z0, w0⟩ : ∃ zs, IsRow .u8 W a0 len0 cap0 zs := by
    obtain ⟨fuel, hf⟩ := h0
    rcases open_ints Try.underlying22 Try.underlying5 (by kernel_rfl) hf with ⟨hcs, _⟩ | ⟨x, l, c, zs, hcs, _, hl, hm, hz, _, hcell, hwz⟩
    · simp [Value.cells] at hcs
      obtain ⟨rfl, rfl, rfl⟩ := hcs
      exact ⟨[], .inl ⟨rfl, rfl, rfl, rfl⟩⟩
    · simp [Value.cells] at hcs
      obtain ⟨rfl, rfl, rfl⟩ := hcs
      exact ⟨zs, .inr ⟨_, rfl, hl, hm, by simpa using hz, hcell, hwz⟩⟩
  clear hA0 hval0
  refine (walk a0 len0 cap0 z0 W w0).mono fun e W' ⟨he, bel⟩ => ?_
  subst he
  exact ⟨_, rfl, _, _, _, [], _, [], hW', trodAll_mk1 (shut_bool Try.underlying4 _), (trodAll_cons_mk (Below.trod laidOut (by kernel_rfl) (of_decide_eq_true (by kernel_rfl)) k0 bel lt0) trodAll_mk0), rfl, bel.frame _, fun h => by cases h⟩

theorem over : Rows.sumOfRow.holds Try.pinned (OpenSpec.ofChange Rows.sumOfSpec) :=
  OpenClaim.holds_of_wide 3 Try.f3 rfl rfl rfl rfl rfl rfl rfl ⟨rfl, rfl, rfl, rfl, rfl⟩ rfl rfl rfl rfl rfl (by kernel_rfl) Try.func3 (by kernel_rfl)
    (of_decide_eq_true (by kernel_rfl)) (by unfold Func.isWrapper; first | (rw [if_pos (by decide +kernel)]; kernel_rfl) | (rw [if_neg (by decide +kernel)]; exact ⟨rfl, rfl⟩))
    (fun os started H enc _ => lifted os started H enc)

end Go.Proofs.Ytmholjjicklnhaa.sumOf
namespace Go.Proofs.Ytmholjjicklnhaa
theorem sumOf_holds : Rows.SumOfSaid := sumOf.over
#print axioms sumOf_holds
end Go.Proofs.Ytmholjjicklnhaa
