/-
  The law QuotaRatios holds: it returns true for every input.
-/
import Derived.Test.YtgbfacbdagonaabRows
import Derived.Test.YtgbfacbdagonaabOpen
import Derived.Test.YtgbfacbdagonaabD4
import Derived.ProofKit
import Derived.OpenShut
import Derived.ShutString
import Derived.ChangeOld
import Derived.Below
namespace Go.Proofs.Ytgbfacbdagonaab.quotaRatios
open Go.ChangeShapes Go.WideShapes Go.ChangeAt Go.RowKit
set_option linter.unusedVariables false
set_option linter.unusedSimpArgs false

set_option maxHeartbeats 2000000 in
theorem walk_neg (b i d l n m a k o : Int) (w : World) (hc : k < 0 ∨ o < 0) : Calls Try.prog 3 #[.agg #[.int .i64 b, .int .i64 i, .int .i64 d, .int .i64 l, .int .i64 n, .int .i64 m, .int .i64 a], .int .i64 k, .int .i64 o] w fun e w' => e = .returned (.bool true) ∧ Below w.heap.size w w' := by
  have KC : Hid _ := fun W => counts_w W
  have H0 := Bx.mk0 w #[.int .i64 b, .int .i64 i, .int .i64 d, .int .i64 l, .int .i64 n, .int .i64 m, .int .i64 a]
  have KR : Hid _ := fun W => ratio_neg b i d l n m a k o W hc
  have hor : ¬ k < 0 → o < 0 := fun h => by omega
  by_cases c : k < 0
  · clear hor hc
    go_enter Try.func3, Try.ntmps3
    go_wp2_with (first
      | (go_at_call 7; refine (KC.out _).mono ?_; rintro e w1 ⟨rfl, b1⟩; have H1 : Hid (Bx w w1 #[.int .i64 b, .int .i64 i, .int .i64 d, .int .i64 l, .int .i64 n, .int .i64 m, .int .i64 a]) := H0.next b1; have f1 := cells_of H1.out.2.1)
      | (go_at_call 8; refine (KR.out _).mono ?_; rintro e w2 ⟨rfl, b2⟩; have H2 : Hid (Bx w w2 #[.int .i64 b, .int .i64 i, .int .i64 d, .int .i64 l, .int .i64 n, .int .i64 m, .int .i64 a]) := H1.out.next b2; have f2 := cells_of H2.out.2.1))
    go_ret
    exact ⟨rfl, H2.out.1⟩
  · have c2 := hor c
    clear hor hc
    go_enter Try.func3, Try.ntmps3
    go_wp2_with (first
      | (go_at_call 7; refine (KC.out _).mono ?_; rintro e w1 ⟨rfl, b1⟩; have H1 : Hid (Bx w w1 #[.int .i64 b, .int .i64 i, .int .i64 d, .int .i64 l, .int .i64 n, .int .i64 m, .int .i64 a]) := H0.next b1; have f1 := cells_of H1.out.2.1)
      | (go_at_call 8; refine (KR.out _).mono ?_; rintro e w2 ⟨rfl, b2⟩; have H2 : Hid (Bx w w2 #[.int .i64 b, .int .i64 i, .int .i64 d, .int .i64 l, .int .i64 n, .int .i64 m, .int .i64 a]) := H1.out.next b2; have f2 := cells_of H2.out.2.1))
    go_ret
    exact ⟨rfl, H2.out.1⟩

set_option maxHeartbeats 2000000 in
theorem walk_bad (b i d l n m a k o : Int) (w : World) (h : goodL b i d l n m a = false) (c : ¬ k < 0) (c2 : ¬ o < 0) (hR : ∀ W, Calls Try.prog 8 #[.agg #[.int .i64 b, .int .i64 i, .int .i64 d, .int .i64 l, .int .i64 n, .int .i64 m, .int .i64 a], .int .i64 k, .int .i64 o] W fun e w' => ∃ z : Int, e = .returned (.int .i64 z) ∧ Below W.heap.size W w') : Calls Try.prog 3 #[.agg #[.int .i64 b, .int .i64 i, .int .i64 d, .int .i64 l, .int .i64 n, .int .i64 m, .int .i64 a], .int .i64 k, .int .i64 o] w fun e w' => e = .returned (.bool true) ∧ Below w.heap.size w w' := by
  have KC : Hid _ := fun W => counts_w W
  have H0 := Bx.mk0 w #[.int .i64 b, .int .i64 i, .int .i64 d, .int .i64 l, .int .i64 n, .int .i64 m, .int .i64 a]
  have KR : Hid (∀ W, Calls Try.prog 8 #[.agg #[.int .i64 b, .int .i64 i, .int .i64 d, .int .i64 l, .int .i64 n, .int .i64 m, .int .i64 a], .int .i64 k, .int .i64 o] W fun e w' => ∃ z : Int, e = .returned (.int .i64 z) ∧ Below W.heap.size W w') := hR
  have KG : Hid (∀ W, Calls Try.prog 9 #[.agg #[.int .i64 b, .int .i64 i, .int .i64 d, .int .i64 l, .int .i64 n, .int .i64 m, .int .i64 a]] W fun e w' => e = .returned (.bool false) ∧ Below W.heap.size W w') := fun W => by
    have := good_w b i d l n m a W
    rwa [h] at this
  clear h hR
  go_enter Try.func3, Try.ntmps3
  go_wp2_with (first
    | (go_at_call 7; refine (KC.out _).mono ?_; rintro e w1 ⟨rfl, b1⟩; have H1 : Hid (Bx w w1 #[.int .i64 b, .int .i64 i, .int .i64 d, .int .i64 l, .int .i64 n, .int .i64 m, .int .i64 a]) := H0.next b1; have f1 := cells_of H1.out.2.1)
    | (go_at_call 8; refine (KR.out _).mono ?_; rintro e w2 ⟨z, rfl, b2⟩; have H2 : Hid (Bx w w2 #[.int .i64 b, .int .i64 i, .int .i64 d, .int .i64 l, .int .i64 n, .int .i64 m, .int .i64 a]) := H1.out.next b2; have f2 := cells_of H2.out.2.1)
    | (go_at_call 9; refine (KG.out _).mono ?_; rintro e w3 ⟨rfl, b3⟩; have H3 : Hid (Bx w w3 #[.int .i64 b, .int .i64 i, .int .i64 d, .int .i64 l, .int .i64 n, .int .i64 m, .int .i64 a]) := H2.out.next b3; have f3 := cells_of H3.out.2.1))
  go_ret
  exact ⟨rfl, H3.out.1⟩

set_option maxHeartbeats 2000000 in
theorem walk_small (b i d l n m a k o : Int) (w : World) (h : goodL b i d l n m a = true) (c : ¬ k < 0) (c2 : ¬ o < 0) (c3 : o ≤ a) : Calls Try.prog 3 #[.agg #[.int .i64 b, .int .i64 i, .int .i64 d, .int .i64 l, .int .i64 n, .int .i64 m, .int .i64 a], .int .i64 k, .int .i64 o] w fun e w' => e = .returned (.bool true) ∧ Below w.heap.size w w' := by
  have KC : Hid _ := fun W => counts_w W
  have H0 := Bx.mk0 w #[.int .i64 b, .int .i64 i, .int .i64 d, .int .i64 l, .int .i64 n, .int .i64 m, .int .i64 a]
  have KR : Hid (∀ W, Calls Try.prog 8 #[.agg #[.int .i64 b, .int .i64 i, .int .i64 d, .int .i64 l, .int .i64 n, .int .i64 m, .int .i64 a], .int .i64 k, .int .i64 o] W fun e w' => e = .returned (.int .i64 0) ∧ Below W.heap.size W w') := fun W => ratio_small b i d l n m a k o W c c2 c3
  have KG : Hid (∀ W, Calls Try.prog 9 #[.agg #[.int .i64 b, .int .i64 i, .int .i64 d, .int .i64 l, .int .i64 n, .int .i64 m, .int .i64 a]] W fun e w' => e = .returned (.bool true) ∧ Below W.heap.size W w') := fun W => by
    have := good_w b i d l n m a W
    rwa [h] at this
  clear h
  go_enter Try.func3, Try.ntmps3
  go_wp2_with (first
    | (go_at_call 7; refine (KC.out _).mono ?_; rintro e w1 ⟨rfl, b1⟩; have H1 : Hid (Bx w w1 #[.int .i64 b, .int .i64 i, .int .i64 d, .int .i64 l, .int .i64 n, .int .i64 m, .int .i64 a]) := H0.next b1; have f1 := cells_of H1.out.2.1)
    | (go_at_call 8; refine (KR.out _).mono ?_; rintro e w2 ⟨rfl, b2⟩; have H2 : Hid (Bx w w2 #[.int .i64 b, .int .i64 i, .int .i64 d, .int .i64 l, .int .i64 n, .int .i64 m, .int .i64 a]) := H1.out.next b2; have f2 := cells_of H2.out.2.1)
    | (go_at_call 9; refine (KG.out _).mono ?_; rintro e w3 ⟨rfl, b3⟩; have H3 : Hid (Bx w w3 #[.int .i64 b, .int .i64 i, .int .i64 d, .int .i64 l, .int .i64 n, .int .i64 m, .int .i64 a]) := H2.out.next b3; have f3 := cells_of H3.out.2.1))
  go_ret
  exact ⟨rfl, H3.out.1⟩

set_option maxHeartbeats 2000000 in
theorem walk_in (b i d l n m a k o : Int) (z : Bool) (w : World) (h : goodL b i d l n m a = true) (c : ¬ k < 0) (c2 : ¬ o < 0) (c3 : ¬ o ≤ a) (hw : wrap64 (o - a) = o - a) (hR : ∀ W, Calls Try.prog 8 #[.agg #[.int .i64 b, .int .i64 i, .int .i64 d, .int .i64 l, .int .i64 n, .int .i64 m, .int .i64 a], .int .i64 k, .int .i64 o] W fun e w' => e = .returned (.int .i64 (if z then 151 else 0)) ∧ Below W.heap.size W w')
    (hM : ∀ W, Calls Try.prog 10 #[.int .i64 (o - a), .int .i64 m, .int .i64 k, .int .i64 n] W fun e w' => e = .returned (.bool z) ∧ Below W.heap.size W w') : Calls Try.prog 3 #[.agg #[.int .i64 b, .int .i64 i, .int .i64 d, .int .i64 l, .int .i64 n, .int .i64 m, .int .i64 a], .int .i64 k, .int .i64 o] w fun e w' => e = .returned (.bool true) ∧ Below w.heap.size w w' := by
  have KC : Hid _ := fun W => counts_w W
  have H0 := Bx.mk0 w #[.int .i64 b, .int .i64 i, .int .i64 d, .int .i64 l, .int .i64 n, .int .i64 m, .int .i64 a]
  have KG : Hid (∀ W, Calls Try.prog 9 #[.agg #[.int .i64 b, .int .i64 i, .int .i64 d, .int .i64 l, .int .i64 n, .int .i64 m, .int .i64 a]] W fun e w' => e = .returned (.bool true) ∧ Below W.heap.size W w') := fun W => by
    have := good_w b i d l n m a W
    rwa [h] at this
  have KM : Hid (∀ W, Calls Try.prog 10 #[.int .i64 (o - a), .int .i64 m, .int .i64 k, .int .i64 n] W fun e w' => e = .returned (.bool z) ∧ Below W.heap.size W w') := hM
  cases z with
  | true =>
    have KR : Hid (∀ W, Calls Try.prog 8 #[.agg #[.int .i64 b, .int .i64 i, .int .i64 d, .int .i64 l, .int .i64 n, .int .i64 m, .int .i64 a], .int .i64 k, .int .i64 o] W fun e w' => e = .returned (.int .i64 151) ∧ Below W.heap.size W w') := hR
    clear h hR hM
    go_enter Try.func3, Try.ntmps3
    go_wp2_with (first
      | (go_at_call 7; refine (KC.out _).mono ?_; rintro e w1 ⟨rfl, b1⟩; have H1 : Hid (Bx w w1 #[.int .i64 b, .int .i64 i, .int .i64 d, .int .i64 l, .int .i64 n, .int .i64 m, .int .i64 a]) := H0.next b1; have f1 := cells_of H1.out.2.1)
      | (go_at_call 8; refine (KR.out _).mono ?_; rintro e w2 ⟨rfl, b2⟩; have H2 : Hid (Bx w w2 #[.int .i64 b, .int .i64 i, .int .i64 d, .int .i64 l, .int .i64 n, .int .i64 m, .int .i64 a]) := H1.out.next b2; have f2 := cells_of H2.out.2.1)
      | (go_at_call 9; refine (KG.out _).mono ?_; rintro e w3 ⟨rfl, b3⟩; have H3 : Hid (Bx w w3 #[.int .i64 b, .int .i64 i, .int .i64 d, .int .i64 l, .int .i64 n, .int .i64 m, .int .i64 a]) := H2.out.next b3; have f3 := cells_of H3.out.2.1)
      | (go_at_call 10; refine (KM.out _).mono ?_; rintro e w4 ⟨rfl, b4⟩; have H4 : Hid (Bx w w4 #[.int .i64 b, .int .i64 i, .int .i64 d, .int .i64 l, .int .i64 n, .int .i64 m, .int .i64 a]) := H3.out.next b4))
    go_ret
    exact ⟨rfl, H4.out.1⟩
  | false =>
    have KR : Hid (∀ W, Calls Try.prog 8 #[.agg #[.int .i64 b, .int .i64 i, .int .i64 d, .int .i64 l, .int .i64 n, .int .i64 m, .int .i64 a], .int .i64 k, .int .i64 o] W fun e w' => e = .returned (.int .i64 0) ∧ Below W.heap.size W w') := hR
    clear h hR hM
    go_enter Try.func3, Try.ntmps3
    go_wp2_with (first
      | (go_at_call 7; refine (KC.out _).mono ?_; rintro e w1 ⟨rfl, b1⟩; have H1 : Hid (Bx w w1 #[.int .i64 b, .int .i64 i, .int .i64 d, .int .i64 l, .int .i64 n, .int .i64 m, .int .i64 a]) := H0.next b1; have f1 := cells_of H1.out.2.1)
      | (go_at_call 8; refine (KR.out _).mono ?_; rintro e w2 ⟨rfl, b2⟩; have H2 : Hid (Bx w w2 #[.int .i64 b, .int .i64 i, .int .i64 d, .int .i64 l, .int .i64 n, .int .i64 m, .int .i64 a]) := H1.out.next b2; have f2 := cells_of H2.out.2.1)
      | (go_at_call 9; refine (KG.out _).mono ?_; rintro e w3 ⟨rfl, b3⟩; have H3 : Hid (Bx w w3 #[.int .i64 b, .int .i64 i, .int .i64 d, .int .i64 l, .int .i64 n, .int .i64 m, .int .i64 a]) := H2.out.next b3; have f3 := cells_of H3.out.2.1)
      | (go_at_call 10; refine (KM.out _).mono ?_; rintro e w4 ⟨rfl, b4⟩; have H4 : Hid (Bx w w4 #[.int .i64 b, .int .i64 i, .int .i64 d, .int .i64 l, .int .i64 n, .int .i64 m, .int .i64 a]) := H3.out.next b4))
    go_ret
    exact ⟨rfl, H4.out.1⟩

theorem walk (b i d l n m a k o : Int) (w : World) (_ : Fit b) (_ : Fit i) (hn : Fit n) (hm : Fit m) (ha : Fit a) (hk : -9223372036854775808 ≤ k ∧ k ≤ 9223372036854775807) (ho : -9223372036854775808 ≤ o ∧ o ≤ 9223372036854775807) : Calls Try.prog 3 #[.agg #[.int .i64 b, .int .i64 i, .int .i64 d, .int .i64 l, .int .i64 n, .int .i64 m, .int .i64 a], .int .i64 k, .int .i64 o] w fun e w' => e = .returned (.bool true) ∧ Below w.heap.size w w' := by
  by_cases c0 : k < 0 ∨ o < 0
  · exact walk_neg b i d l n m a k o w c0
  · have c1 : ¬ k < 0 := fun h => c0 (.inl h)
    have c2 : ¬ o < 0 := fun h => c0 (.inr h)
    unfold Fit at hn hm ha
    cases h : goodL b i d l n m a with
    | false =>
      refine walk_bad b i d l n m a k o w h c1 c2 fun W => ?_
      by_cases c3 : o ≤ a
      · refine (ratio_small b i d l n m a k o W c1 c2 c3).mono ?_
        rintro e w' ⟨rfl, hb⟩
        exact ⟨0, rfl, hb⟩
      · obtain ⟨k', rfl⟩ : ∃ x : Nat, k = (x : Int) := ⟨k.toNat, by omega⟩
        obtain ⟨o', rfl⟩ : ∃ x : Nat, o = (x : Int) := ⟨o.toNat, by omega⟩
        obtain ⟨u, hu⟩ : ∃ u : Nat, IntKind.u64.wrap ((o' : Int) - IntKind.u64.wrap a) = (u : Int) := ⟨(IntKind.u64.wrap ((o' : Int) - IntKind.u64.wrap a)).toNat, by rw [IntKind.wrap_u64]; omega⟩
        refine (ratio_w b i d l n m a k' o' u W (by omega) (by omega) (by omega) hu (by rw [IntKind.wrap_u64] at hu; omega) hn.2 hn.1 hm.2 hm.1).mono ?_
        rintro e w' ⟨⟨h1, l1, h2, l2, rfl, _, _⟩, hb⟩
        exact ⟨_, rfl, hb⟩
    | true =>
      by_cases c3 : o ≤ a
      · exact walk_small b i d l n m a k o w h c1 c2 c3
      · have hg := of_decide_eq_true h
        obtain ⟨k', rfl⟩ : ∃ x : Nat, k = (x : Int) := ⟨k.toNat, by omega⟩
        obtain ⟨o', rfl⟩ : ∃ x : Nat, o = (x : Int) := ⟨o.toNat, by omega⟩
        obtain ⟨n', rfl⟩ : ∃ x : Nat, n = (x : Int) := ⟨n.toNat, by omega⟩
        obtain ⟨m', rfl⟩ : ∃ x : Nat, m = (x : Int) := ⟨m.toNat, by omega⟩
        obtain ⟨a', rfl⟩ : ∃ x : Nat, a = (x : Int) := ⟨a.toNat, by omega⟩
        have hao : a' < o' := by omega
        refine walk_in b i d l n' m' a' k' o' (decide (k' * n' < (o' - a') * m')) w h c1 c2 c3 (by apply w64_id <;> omega) (fun W => ?_) (fun W => ?_)
        · refine (ratio_good b i d l a' n' m' k' o' a' W rfl (by omega) (by omega) (by omega) (by omega)).mono ?_
          rintro e w' ⟨rfl, hb⟩
          refine ⟨?_, hb⟩
          by_cases c4 : k' * n' < (o' - a') * m'
          · rw [if_pos ⟨hao, c4⟩, decide_eq_true c4]; rfl
          · rw [if_neg (fun q => c4 q.2), decide_eq_false c4]; rfl
        · have := more_w (o' - a') m' k' n' (by omega) (by omega) (by omega) (by omega) W
          rwa [show ((o' - a' : Nat) : Int) = (o' : Int) - (a' : Int) by omega] at this

theorem own : ownKnob Try.prog.godebug = none := by kernel_rfl
theorem laidOut : laidOutB Try.prog = true := by kernel_rfl
set_option maxRecDepth 100000 in
theorem lifted (os : Os) (started : os.Started) (H : Type) (enc : TypeId × Value → H) :
    ReturnsInHanded {} Try.checked os 3 .any (Rows.quotaRatiosSpec.pre6 enc Try.prog Try.f3 Rows.quotaRatiosRow.domain false) (Rows.quotaRatiosSpec.post enc Try.prog Try.f3 false true false false) := by
  refine returnsInHanded_of_change (C := Try.checked) own started (by kernel_rfl) Try.func3
    (ChangeSpec.witness6 (enc := enc) (C := Try.checked) false ⟨#[], #[.agg #[.int .i64 0, .int .i64 0, .int .i64 0, .int .i64 0, .int .i64 0, .int .i64 0, .int .i64 0], .int .i64 0, .int .i64 0], []⟩ 8 (by kernel_rfl) (by kernel_rfl) (by kernel_rfl) (by kernel_rfl)) ?_
  intro W base args ds gs before hval0 hW hcnd _
  have hval : ∀ (j : Nat) t v, Try.f3.params[j]? = some t → args[j]? = some v → Value.okWide Try.prog W .any base t v := hval0
  have hW' := hW
  obtain ⟨p, q, hA0, hV, rfl, hfz, hnd⟩ := hW
  have hA : DataW.TrodAll enc Try.prog W 0 (fun _ => true) true Try.f3.params.toList args.toList ds p := hA0
  rw [Try.params3] at hA hval
  obtain ⟨v0, vs0, d0, ds0, p0, q0, hargs, rfl, rfl, h0, r0⟩ := trodAll_cons hA
  obtain ⟨v1, vs1, d1, ds1, p1, q1, rfl, rfl, rfl, h1, r1⟩ := trodAll_cons r0
  obtain ⟨v2, vs2, d2, ds2, p2, q2, rfl, rfl, rfl, h2, r2⟩ := trodAll_cons r1
  obtain ⟨rfl, rfl, rfl⟩ := trodAll_nil r2
  obtain rfl : args = #[v0, v1, v2] := by cases args; simp_all
  obtain ⟨rfl, rfl⟩ := trodVars_none hV
  have k0 := h0
  have lt0 : ∀ x ∈ p0, x.block < W.heap.size := by obtain ⟨m, hm⟩ := k0; exact DataW.trod_lt m _ _ _ hm
  obtain ⟨lb, li, ld, ll, ln, lm, la, rfl, f0, f1, f4, f5, f6⟩ := open_lim (hval 0 23 v0 rfl rfl) h0
  obtain ⟨a1, rfl, rfl, rfl, w1⟩ := open_int Try.underlying2 (hval 1 2 v1 rfl rfl) h1
  obtain ⟨a2, rfl, rfl, rfl, w2⟩ := open_int Try.underlying2 (hval 2 2 v2 rfl rfl) h2
  clear hA0 hval0
  refine (walk lb li ld ll ln lm la a1 a2 W f0 f1 f4 f5 f6 (i64_of w1) (i64_of w2)).mono fun e W' ⟨he, bel⟩ => ?_
  subst he
  exact ⟨_, rfl, _, _, _, [], _, [], hW', trodAll_mk1 (shut_bool Try.underlying4 _), (trodAll_cons_mk (Below.trod laidOut (by kernel_rfl) (of_decide_eq_true (by kernel_rfl)) k0 bel lt0) (trodAll_cons_mk (shut_int Try.underlying2 w1) (trodAll_cons_mk (shut_int Try.underlying2 w2) trodAll_mk0))), rfl, bel.frame _, fun h => by cases h⟩

theorem over : Rows.quotaRatiosRow.holds Try.pinned (OpenSpec.ofChange Rows.quotaRatiosSpec) :=
  OpenClaim.holds_of_wide 3 Try.f3 rfl rfl rfl rfl rfl rfl rfl ⟨rfl, rfl, rfl, rfl, rfl⟩ rfl rfl rfl rfl rfl (by kernel_rfl) Try.func3 (by kernel_rfl)
    (of_decide_eq_true (by kernel_rfl)) (by unfold Func.isWrapper; first | (rw [if_pos (by decide +kernel)]; kernel_rfl) | (rw [if_neg (by decide +kernel)]; exact ⟨rfl, rfl⟩))
    (fun os started H enc _ => lifted os started H enc)

end Go.Proofs.Ytgbfacbdagonaab.quotaRatios
namespace Go.Proofs.Ytgbfacbdagonaab
theorem quotaRatios_holds : Rows.QuotaRatiosSaid := quotaRatios.over
#print axioms quotaRatios_holds
end Go.Proofs.Ytgbfacbdagonaab
