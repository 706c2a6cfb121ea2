/-
  The card of the law WholeEntry holds: it returns true for every entry and every header, the variables of the library that it lists being as the program text lays them.
-/
import Derived.Test.YtjnmmkohmfhnlabDoorLaid
import Derived.Test.YtjnmmkohmfhnlabDoorCards
import Derived.Test.YtjnmmkohmfhnlabDoorTie
import Derived.Test.YtjnmmkohmfhnlabDoorWk1a
import Derived.Test.YtjnmmkohmfhnlabDoorWk1b
import Derived.Test.YtjnmmkohmfhnlabDoorWk2
import Derived.Test.YtjnmmkohmfhnlabDoorWk3
import Derived.Test.YtjnmmkohmfhnlabDoorWk4
import Derived.Test.YtjnmmkohmfhnlabDoorOpen
import Derived.OpenShut
import Derived.SizedLaws
import Derived.ShutString
import Derived.ChangeOld
import Derived.ProofKit
import Derived.ChangeMaps5
namespace Go.Proofs.YtjnmmkohmfhnlabDoor.wholeEntry
open Go.ChangeShapes Go.WideShapes Go.RowKit
set_option linter.unusedVariables false
set_option linter.unusedSimpArgs false

theorem ty_kind {k : Int} (h : ¬ ty k = 0) : k = 1 ∨ k = 2 ∨ k = 3 ∨ k = 4 := by
  unfold ty at h
  by_cases c1 : k = 1
  · exact .inl c1
  by_cases c2 : k = 2
  · exact .inr (.inl c2)
  by_cases c3 : k = 3
  · exact .inr (.inr (.inl c3))
  by_cases c4 : k = 4
  · exact .inr (.inr (.inr c4))
  rw [if_neg c1, if_neg c2, if_neg c3, if_neg c4] at h
  exact absurd rfl h

theorem walk (x : En) (h : Hd) (w : World) (hv : Vs w) (fx : EnFit x) (fh : HdFit h) :
    Calls Tryd.prog 3 #[.agg x.cells, .agg h.cells] w fun e w' => e = .returned (.bool true) ∧ Below w.heap.size w w' := by
  obtain ⟨p, l, k, m, a, b, c, d, u, g⟩ := x
  obtain ⟨hf, hn, hl, hp, hu, hg, ht, hm, ha, hb, hs, hc⟩ := h
  by_cases c0 : ty k = 0
  · exact walk_k0 p l u g k m a b c d hf hn hl hp hu hg ht hm ha hb hs hc w hv fx fh c0
  · rcases ty_kind c0 with rfl | rfl | rfl | rfl
    · by_cases cf : hf = 0
      · exact walk_k1a p l u g m a b c d hf hn hl hp hu hg ht hm ha hb hs hc w hv fx fh cf
      · exact walk_k1b p l u g m a b c d hf hn hl hp hu hg ht hm ha hb hs hc w hv fx fh cf
    · exact walk_k2 p l u g m a b c d hf hn hl hp hu hg ht hm ha hb hs hc w hv fx fh
    · exact walk_k3 p l u g m a b c d hf hn hl hp hu hg ht hm ha hb hs hc w hv fx fh
    · exact walk_k4 p l u g m a b c d hf hn hl hp hu hg ht hm ha hb hs hc w hv fx fh


theorem lit_i64 {z : Int} (h : (Lit.int .i64 z).wf = true) : -9223372036854775808 ≤ z ∧ z ≤ 9223372036854775807 := by
  have h' : IntKind.i64.min ≤ z ∧ z ≤ IntKind.i64.max := by simpa [Lit.wf] using h
  have e1 : IntKind.i64.min = -9223372036854775808 := by decide
  have e2 : IntKind.i64.max = 9223372036854775807 := by decide
  omega

set_option maxRecDepth 100000 in
theorem lifted (os : Os) (started : os.Started) (H : Type) (enc : TypeId × Value → H) :
    ReturnsInHanded {} Tryd.checked os 3 .any (fun w args => (Rows.wholeEntrySpec.pre enc Tryd.prog Tryd.f3 [] false w args ∧ laidMetH Tryd.prog five w) ∧ sizedMet enc Tryd.prog Tryd.f3 (OpenSpec.ofChange Rows.wholeEntrySpec) false w args)
      (Rows.wholeEntrySpec.post enc Tryd.prog Tryd.f3 false true false false) := by
  refine returnsInHanded_of_change_and (C := Tryd.checked) (X := fun w _ => laidMetH Tryd.prog five w) (fun _ _ _ hh h => h.of_heap hh) own started (by kernel_rfl) Tryd.func3
    (ChangeSpec.witness_at (enc := enc) (C := Tryd.checked) (os := os) (X := fun w _ => laidMetH Tryd.prog five w) false
      (start os)
      #[.agg zeroE.cells, .agg (Hd.mk 0 noE noE noE noE noE 0 0 0 0 0 0).cells] 8 rfl (by kernel_rfl) (by kernel_rfl) (by kernel_rfl) (by kernel_rfl) (by kernel_rfl) (laidMet_of_run' 8 (by kernel_rfl) (by kernel_rfl))) ?_
  intro W base args ds gs before hval0 hW _ hsz hL _
  have hval : ∀ (j : Nat) t v, Tryd.f3.params[j]? = some t → args[j]? = some v → Value.okWide Tryd.prog W .any base t v := hval0
  have hW' := hW
  obtain ⟨p, q, hA0, hV0, rfl, hfz, hnd⟩ := hW
  have hA : DataW.TrodAll enc Tryd.prog W 0 (fun _ => true) true Tryd.f3.params.toList args.toList ds p := hA0
  have hV : DataW.TrodVars enc Tryd.prog W (fun _ => true) [] gs q := hV0
  rw [Tryd.params3] at hA hval
  obtain ⟨v0, vs0, d0, ds0, p0, q0, hargs, rfl, rfl, h0, r0⟩ := trodAll_cons hA
  obtain ⟨v1, vs1, d1, ds1, p1, q1, rfl, rfl, rfl, h1, r1⟩ := trodAll_cons r0
  obtain ⟨rfl, rfl, rfl⟩ := trodAll_nil r1
  obtain rfl : args = #[v0, v1] := by cases args; simp_all
  obtain ⟨rfl, rfl⟩ : gs = [] ∧ q = [] := by
    cases gs with
    | nil => exact ⟨rfl, hV⟩
    | cons g r => exact absurd hV (by intro h; cases h)
  have k0 := h0
  have lt0 : ∀ x ∈ p0, x.block < W.heap.size := by obtain ⟨m, hm⟩ := k0; exact DataW.trod_lt m _ _ _ hm
  have sz0 := fun n hn => of_decide_eq_true (List.all_eq_true.1 hsz n (DataW.weights_mem_each (j := 0) (t := 23) rfl rfl n hn))
  obtain ⟨x0, rfl, fit0⟩ := open_en (hval 0 23 v0 rfl rfl) h0 sz0
  have k1 := h1
  have lt1 : ∀ x ∈ p1, x.block < W.heap.size := by obtain ⟨m, hm⟩ := k1; exact DataW.trod_lt m _ _ _ hm
  have sz1 := fun n hn => of_decide_eq_true (List.all_eq_true.1 hsz n (DataW.weights_mem_each (j := 1) (t := 25) rfl rfl n hn))
  obtain ⟨x1, rfl, fit1⟩ := open_hd (hval 1 25 v1 rfl rfl) h1 sz1
  clear hA0 hval0
  refine (walk x0 x1 W (met hL) fit0 fit1).mono fun e W' ⟨he, st⟩ => ?_
  subst he
  exact ⟨_, rfl, _, _, _, [], _, [], hW', trodAll_mk1 (shut_bool Tryd.underlying4 _), (trodAll_cons_mk (Below.trod laidOut (by kernel_rfl) (of_decide_eq_true (by kernel_rfl)) k0 st lt0) (trodAll_cons_mk (Below.trod laidOut (by kernel_rfl) (of_decide_eq_true (by kernel_rfl)) k1 st lt1) trodAll_mk0)), rfl, st.frame _, fun h => by cases h⟩

theorem over : Rows.WholeEntrySaid :=
  OpenClaim.holds_of_wide 3 Tryd.f3 rfl rfl rfl rfl rfl rfl rfl ⟨rfl, rfl, rfl, rfl, rfl⟩ rfl rfl rfl rfl rfl (by kernel_rfl) Tryd.func3 (by kernel_rfl)
    (of_decide_eq_true (by kernel_rfl)) (by unfold Func.isWrapper; rw [if_neg (of_decide_eq_false (by kernel_rfl))]; exact ⟨rfl, rfl⟩)
    (fun os started H enc _ => lifted os started H enc)

theorem carded : Rows.WholeEntryCardSaid :=
  Claim7.holds_tied_plain_at .later [] _ _ _ _
    over (fun _ h => by cases h) (by kernel_rfl) (fun _ h => by cases h) wholeEntry_row_tie rfl ⟨rfl, rfl⟩ (by kernel_rfl) rfl
    (fun f fn hf hfn => by
      obtain rfl : f = 3 := Option.some.inj ((show Tryd.prog.funcNamed Tryd.f3.name = some 3 by kernel_rfl).symm.trans hf) |>.symm
      obtain rfl : fn = Tryd.f3 := (Option.some.inj (Tryd.func3.symm.trans hfn)).symm
      refine ⟨by kernel_rfl, fun j t ht => ?_⟩
      have hall : ∀ t ∈ Tryd.f3.params, Tryd.prog.wantsStandIn t = false := by
        rw [Tryd.params3]
        intro t ht
        simp at ht
        rcases ht with rfl | rfl <;> kernel_rfl
      exact hall t (Array.mem_of_getElem? ht))
    (by kernel_rfl)

end Go.Proofs.YtjnmmkohmfhnlabDoor.wholeEntry
namespace Go.Proofs.YtjnmmkohmfhnlabDoor
theorem wholeEntry_holds : Rows.WholeEntryCardSaid := wholeEntry.carded
#print axioms wholeEntry_holds
end Go.Proofs.YtjnmmkohmfhnlabDoor
