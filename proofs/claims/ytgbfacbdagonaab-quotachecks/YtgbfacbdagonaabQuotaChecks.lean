/-
  The law QuotaChecks holds: it returns true for every input.
-/
import Derived.Test.YtgbfacbdagonaabRows
import Derived.Test.YtgbfacbdagonaabOpen
import Derived.ProofKit
import Derived.OpenShut
import Derived.ShutString
import Derived.ChangeOld
import Derived.Below
namespace Go.Proofs.Ytgbfacbdagonaab.quotaChecks
open Go.ChangeShapes Go.WideShapes Go.ChangeAt Go.RowKit
set_option linter.unusedVariables false
set_option linter.unusedSimpArgs false

set_option maxHeartbeats 4000000 in
theorem walk_yes (b i d l n m a : Int) (w : World) (h : goodL b i d l n m a = true) :
    Calls Try.prog 6 #[.agg #[.int .i64 b, .int .i64 i, .int .i64 d, .int .i64 l, .int .i64 n, .int .i64 m, .int .i64 a]] w fun e w' => e = .returned (.bool true) ∧ Below w.heap.size w w' := by
  have KC : Hid _ := fun W => counts_w W
  have KN : Hid (∀ W, Calls Try.prog 11 #[.agg #[.int .i64 b, .int .i64 i, .int .i64 d, .int .i64 l, .int .i64 n, .int .i64 m, .int .i64 a]] W fun e w' => e = .returned (.tuple #[.agg #[.int .i64 b, .int .i64 i, .int .i64 d, .int .i64 l, .int .i64 n, .int .i64 m, .int .i64 a, .int .i64 0, .int .i64 0, .int .i64 0, .int .i64 0], .int .i64 0]) ∧ Below W.heap.size W w') := fun W => new_yes b i d l n m a W h
  have KG : Hid (∀ W, Calls Try.prog 9 #[.agg #[.int .i64 b, .int .i64 i, .int .i64 d, .int .i64 l, .int .i64 n, .int .i64 m, .int .i64 a]] W fun e w' => e = .returned (.bool true) ∧ Below W.heap.size W w') := fun W => by
    have := good_w b i d l n m a W
    rwa [h] at this
  have KK : Hid (∀ W, Calls Try.prog 13 #[.agg #[.int .i64 b, .int .i64 i, .int .i64 d, .int .i64 l, .int .i64 n, .int .i64 m, .int .i64 a]] W fun e w' => e = .returned (.int .i64 0) ∧ Below W.heap.size W w') := fun W => by
    have := check_w b i d l n m a W
    rw [h] at this
    exact this
  clear h
  have H0 := Bx.mk0 w #[.int .i64 b, .int .i64 i, .int .i64 d, .int .i64 l, .int .i64 n, .int .i64 m, .int .i64 a]
  go_enter Try.func6, Try.ntmps6
  go_wp2_with (first
    | (go_at_call 7; refine (KC.out _).mono ?_; rintro e w1 ⟨rfl, b1⟩; have H1 : Hid (Bx w w1 #[.int .i64 b, .int .i64 i, .int .i64 d, .int .i64 l, .int .i64 n, .int .i64 m, .int .i64 a]) := H0.next b1; have f1 := cells_of H1.out.2.1)
    | (go_at_call 11; refine (KN.out _).mono ?_; rintro e w2 ⟨rfl, b2⟩; have H2 : Hid (∀ o, Bx w (w2.alloc o) #[.int .i64 b, .int .i64 i, .int .i64 d, .int .i64 l, .int .i64 n, .int .i64 m, .int .i64 a]) := fun o => (H1.out.next b2).next (below_alloc w2 o)))
  have H3 : Bx w _ #[.int .i64 b, .int .i64 i, .int .i64 d, .int .i64 l, .int .i64 n, .int .i64 m, .int .i64 a] := H2.out (.cells #[.int .i64 b, .int .i64 i, .int .i64 d, .int .i64 l, .int .i64 n, .int .i64 m, .int .i64 a, .int .i64 0, .int .i64 0, .int .i64 0, .int .i64 0] 33)
  clear b1 b2 H1 H2 H0 f1
  generalize w2.alloc _ = w3 at *
  have HC : Hid (∀ W, Bx w W #[.int .i64 b, .int .i64 i, .int .i64 d, .int .i64 l, .int .i64 n, .int .i64 m, .int .i64 a] → Bx w W #[.int .i64 b, .int .i64 i, .int .i64 d, .int .i64 l, .int .i64 n, .int .i64 m, .int .i64 a] ∧ (∀ j, W.cell? ⟨w.heap.size, j, none⟩ = (#[.int .i64 b, .int .i64 i, .int .i64 d, .int .i64 l, .int .i64 n, .int .i64 m, .int .i64 a] : Array Value)[j]?)) := fun W h => ⟨h, cells_of h.2.1⟩
  have h3 := HC.out _ H3.drew
  have f3 := h3.2
  go_region_with ((first
    | (go_at_call 9; refine (KG.out _).mono ?_; rintro e w4 ⟨rfl, b4⟩; (first | have hn := HC.out w4 (hn.1.next b4) | have hn := HC.out w4 (h3.1.next b4)); have fn := hn.2)
    | (go_at_call 13; refine (KK.out _).mono ?_; rintro e w4 ⟨rfl, b4⟩; (first | have hn := HC.out w4 (hn.1.next b4) | have hn := HC.out w4 (h3.1.next b4)); have fn := hn.2)))
  all_goals
    go_wp2_with fail
    go_ret
    exact ⟨rfl, hn.1.1⟩

set_option maxHeartbeats 4000000 in
theorem walk_no (b i d l n m a : Int) (w : World) (h : goodL b i d l n m a = false) :
    Calls Try.prog 6 #[.agg #[.int .i64 b, .int .i64 i, .int .i64 d, .int .i64 l, .int .i64 n, .int .i64 m, .int .i64 a]] w fun e w' => e = .returned (.bool true) ∧ Below w.heap.size w w' := by
  have KC : Hid _ := fun W => counts_w W
  have KN : Hid (∀ W, Calls Try.prog 11 #[.agg #[.int .i64 b, .int .i64 i, .int .i64 d, .int .i64 l, .int .i64 n, .int .i64 m, .int .i64 a]] W fun e w' => e = .returned (.tuple #[.agg #[.int .i64 0, .int .i64 0, .int .i64 0, .int .i64 0, .int .i64 0, .int .i64 0, .int .i64 0, .int .i64 0, .int .i64 0, .int .i64 0, .int .i64 0], .int .i64 1]) ∧ Below W.heap.size W w') := fun W => new_no b i d l n m a W h
  have KG : Hid (∀ W, Calls Try.prog 9 #[.agg #[.int .i64 b, .int .i64 i, .int .i64 d, .int .i64 l, .int .i64 n, .int .i64 m, .int .i64 a]] W fun e w' => e = .returned (.bool false) ∧ Below W.heap.size W w') := fun W => by
    have := good_w b i d l n m a W
    rwa [h] at this
  have KK : Hid (∀ W, Calls Try.prog 13 #[.agg #[.int .i64 b, .int .i64 i, .int .i64 d, .int .i64 l, .int .i64 n, .int .i64 m, .int .i64 a]] W fun e w' => e = .returned (.int .i64 1) ∧ Below W.heap.size W w') := fun W => by
    have := check_w b i d l n m a W
    rw [h] at this
    exact this
  clear h
  have H0 := Bx.mk0 w #[.int .i64 b, .int .i64 i, .int .i64 d, .int .i64 l, .int .i64 n, .int .i64 m, .int .i64 a]
  go_enter Try.func6, Try.ntmps6
  go_wp2_with (first
    | (go_at_call 7; refine (KC.out _).mono ?_; rintro e w1 ⟨rfl, b1⟩; have H1 : Hid (Bx w w1 #[.int .i64 b, .int .i64 i, .int .i64 d, .int .i64 l, .int .i64 n, .int .i64 m, .int .i64 a]) := H0.next b1; have f1 := cells_of H1.out.2.1)
    | (go_at_call 11; refine (KN.out _).mono ?_; rintro e w2 ⟨rfl, b2⟩; have H2 : Hid (∀ o, Bx w (w2.alloc o) #[.int .i64 b, .int .i64 i, .int .i64 d, .int .i64 l, .int .i64 n, .int .i64 m, .int .i64 a]) := fun o => (H1.out.next b2).next (below_alloc w2 o)))
  have H3 : Bx w _ #[.int .i64 b, .int .i64 i, .int .i64 d, .int .i64 l, .int .i64 n, .int .i64 m, .int .i64 a] := H2.out (.cells #[.int .i64 0, .int .i64 0, .int .i64 0, .int .i64 0, .int .i64 0, .int .i64 0, .int .i64 0, .int .i64 0, .int .i64 0, .int .i64 0, .int .i64 0] 33)
  clear b1 b2 H1 H2 H0 f1
  generalize w2.alloc _ = w3 at *
  have HC : Hid (∀ W, Bx w W #[.int .i64 b, .int .i64 i, .int .i64 d, .int .i64 l, .int .i64 n, .int .i64 m, .int .i64 a] → Bx w W #[.int .i64 b, .int .i64 i, .int .i64 d, .int .i64 l, .int .i64 n, .int .i64 m, .int .i64 a] ∧ (∀ j, W.cell? ⟨w.heap.size, j, none⟩ = (#[.int .i64 b, .int .i64 i, .int .i64 d, .int .i64 l, .int .i64 n, .int .i64 m, .int .i64 a] : Array Value)[j]?)) := fun W h => ⟨h, cells_of h.2.1⟩
  have h3 := HC.out _ H3.drew
  go_region_held3 (fun W => Bx w W #[.int .i64 b, .int .i64 i, .int .i64 d, .int .i64 l, .int .i64 n, .int .i64 m, .int .i64 a] ∧ (∀ j, W.cell? ⟨w.heap.size, j, none⟩ = (#[.int .i64 b, .int .i64 i, .int .i64 d, .int .i64 l, .int .i64 n, .int .i64 m, .int .i64 a] : Array Value)[j]?)) (first | assumption | exact hn | exact h3 | go_keep) ((first
    | (go_at_call 9; refine (KG.out _).mono ?_; rintro e w4 ⟨rfl, b4⟩; (first | have hn := HC.out w4 (hn.1.next b4) | have hn := HC.out w4 (h3.1.next b4)))
    | (go_at_call 13; refine (KK.out _).mono ?_; rintro e w4 ⟨rfl, b4⟩; (first | have hn := HC.out w4 (hn.1.next b4) | have hn := HC.out w4 (h3.1.next b4)))))
  all_goals
    go_wp2_with fail
    go_ret
    exact ⟨rfl, hn.1.1⟩

theorem walk (b i d l n m a : Int) (w : World) (_ : Fit b) (_ : Fit i) (_ : Fit n) (_ : Fit m) (_ : Fit a) :
    Calls Try.prog 6 #[.agg #[.int .i64 b, .int .i64 i, .int .i64 d, .int .i64 l, .int .i64 n, .int .i64 m, .int .i64 a]] w fun e w' => e = .returned (.bool true) ∧ Below w.heap.size w w' := by
  cases h : goodL b i d l n m a with
  | true => exact walk_yes b i d l n m a w h
  | false => exact walk_no b i d l n m a w h

theorem own : ownKnob Try.prog.godebug = none := by kernel_rfl
theorem laidOut : laidOutB Try.prog = true := by kernel_rfl
set_option maxRecDepth 100000 in
theorem lifted (os : Os) (started : os.Started) (H : Type) (enc : TypeId × Value → H) :
    ReturnsInHanded {} Try.checked os 6 .any (Rows.quotaChecksSpec.pre6 enc Try.prog Try.f6 Rows.quotaChecksRow.domain false) (Rows.quotaChecksSpec.post enc Try.prog Try.f6 false true false false) := by
  refine returnsInHanded_of_change (C := Try.checked) own started (by kernel_rfl) Try.func6
    (ChangeSpec.witness6 (enc := enc) (C := Try.checked) false ⟨#[], #[.agg #[.int .i64 0, .int .i64 0, .int .i64 0, .int .i64 0, .int .i64 0, .int .i64 0, .int .i64 0]], []⟩ 8 (by kernel_rfl) (by kernel_rfl) (by kernel_rfl) (by kernel_rfl)) ?_
  intro W base args ds gs before hval0 hW hcnd _
  have hval : ∀ (j : Nat) t v, Try.f6.params[j]? = some t → args[j]? = some v → Value.okWide Try.prog W .any base t v := hval0
  have hW' := hW
  obtain ⟨p, q, hA0, hV, rfl, hfz, hnd⟩ := hW
  have hA : DataW.TrodAll enc Try.prog W 0 (fun _ => true) true Try.f6.params.toList args.toList ds p := hA0
  rw [Try.params6] at hA hval
  obtain ⟨v0, vs0, d0, ds0, p0, q0, hargs, rfl, rfl, h0, r0⟩ := trodAll_cons hA
  obtain ⟨rfl, rfl, rfl⟩ := trodAll_nil r0
  obtain rfl : args = #[v0] := by cases args; simp_all
  obtain ⟨rfl, rfl⟩ := trodVars_none hV
  have k0 := h0
  have lt0 : ∀ x ∈ p0, x.block < W.heap.size := by obtain ⟨m, hm⟩ := k0; exact DataW.trod_lt m _ _ _ hm
  obtain ⟨lb, li, ld, ll, ln, lm, la, rfl, f0, f1, f4, f5, f6⟩ := open_lim (hval 0 23 v0 rfl rfl) h0
  clear hA0 hval0
  refine (walk lb li ld ll ln lm la W f0 f1 f4 f5 f6).mono fun e W' ⟨he, bel⟩ => ?_
  subst he
  exact ⟨_, rfl, _, _, _, [], _, [], hW', trodAll_mk1 (shut_bool Try.underlying4 _), (trodAll_cons_mk (Below.trod laidOut (by kernel_rfl) (of_decide_eq_true (by kernel_rfl)) k0 bel lt0) trodAll_mk0), rfl, bel.frame _, fun h => by cases h⟩

theorem over : Rows.quotaChecksRow.holds Try.pinned (OpenSpec.ofChange Rows.quotaChecksSpec) :=
  OpenClaim.holds_of_wide 6 Try.f6 rfl rfl rfl rfl rfl rfl rfl ⟨rfl, rfl, rfl, rfl, rfl⟩ rfl rfl rfl rfl rfl (by kernel_rfl) Try.func6 (by kernel_rfl)
    (of_decide_eq_true (by kernel_rfl)) (by unfold Func.isWrapper; first | (rw [if_pos (by decide +kernel)]; kernel_rfl) | (rw [if_neg (by decide +kernel)]; exact ⟨rfl, rfl⟩))
    (fun os started H enc _ => lifted os started H enc)

end Go.Proofs.Ytgbfacbdagonaab.quotaChecks
namespace Go.Proofs.Ytgbfacbdagonaab
theorem quotaChecks_holds : Rows.QuotaChecksSaid := quotaChecks.over
#print axioms quotaChecks_holds
end Go.Proofs.Ytgbfacbdagonaab
