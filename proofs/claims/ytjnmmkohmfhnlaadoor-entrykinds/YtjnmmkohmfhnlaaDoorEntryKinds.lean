/-
  The card of the law EntryKinds holds: it returns true for every header and every long link, the variables of the library that it lists being as the program text lays them.
-/
import Derived.Test.YtjnmmkohmfhnlaaDoorLaid
import Derived.Test.YtjnmmkohmfhnlaaDoorCards
import Derived.Test.YtjnmmkohmfhnlaaDoorTie
import Derived.Test.YtjnmmkohmfhnlaaDoorEk1
import Derived.Test.YtjnmmkohmfhnlaaDoorEk2
import Derived.Test.YtjnmmkohmfhnlaaDoorEk3
import Derived.ShutString
import Derived.ChangeOld
import Derived.ProofKit
import Derived.ChangeMaps5
namespace Go.Proofs.YtjnmmkohmfhnlaaDoor.entryKinds
open Go.ChangeShapes Go.WideShapes Go.RowKit
set_option linter.unusedVariables false
set_option linter.unusedSimpArgs false

theorem walk (x : Hd) (link : ByteArray) (w : World) (hv : Vs w) (fx : HdFit x) (hm : link.size ≤ 9223372036854775807) :
    Calls Tryd.prog 7 #[.agg x.cells, .string link] w fun e w' => e = .returned (.bool true) ∧ Below w.heap.size w w' := by
  by_cases hc : 500 < link.size ∨ x.size < 0 ∨ x.uid < 0 ∨ x.gid < 0
  · exact ek_out _ _ _ _ _ _ _ _ _ _ _ _ link w hv hm hc
  by_cases hk : kd x.typ = 0
  · have hC : ∀ W, Below w.heap.size w W → Calls Tryd.prog 10 #[.agg x.cells, .agg (noA noE link).cells] W fun ev w' => ev = .returned (.tuple #[.agg zeroE.cells, .int .i64 80]) ∧ Below W.heap.size W w' := fun W hb =>
      make_kind (noA_fit x noE link W (by have := fx.prefx; omega) (by have := fx.name; omega) (by show (0 : Nat) ≤ _; omega)) (hv.below hb) hk
    have ht : ¬ x.typ = 0 ∧ ¬ x.typ = 48 ∧ ¬ x.typ = 55 ∧ ¬ x.typ = 49 ∧ ¬ x.typ = 50 ∧ ¬ x.typ = 53 := by
      unfold kd at hk
      repeat' split at hk
      all_goals simp_all
    exact ek_none _ _ _ _ _ _ _ _ _ _ _ _ link w hv (by omega) (by omega) (by omega) (by omega) ht.1 ht.2.1 ht.2.2.1 ht.2.2.2.1 ht.2.2.2.2.1 ht.2.2.2.2.2 hC
  · obtain ⟨P, L, K, M, S, hM, hcase, hC⟩ := kinds_make x link w hv fx hk (by omega) (by omega) (by omega)
    obtain ⟨form, name, link0, prefx, user, group, typ, mode, uid, gid, size, mtime⟩ := x
    have hT : typ = 0 ∨ typ = 48 ∨ typ = 55 ∨ typ = 49 ∨ typ = 50 ∨ typ = 53 := by
      simp only at hk
      unfold kd at hk
      repeat' split at hk
      all_goals simp_all
    simp only at hc hcase
    have e0 : 0 ≤ size := by omega
    have e1 : 0 ≤ uid := by omega
    have e2 : 0 ≤ gid := by omega
    have e3 : link.size ≤ 500 := by omega
    clear hk hc
    rcases hT with rfl | rfl | rfl | rfl | rfl | rfl
    all_goals rcases hcase with ⟨a, b, c⟩ | ⟨a, b, c, d⟩ | ⟨a, b, c, d⟩
    · subst b; subst c; exact ek_0_1 _ _ _ _ _ _ _ _ _ _ _ link w hv e3 e0 e1 e2 P ⟨#[]⟩ M S hM.1 hM.2 hC
    · subst b; subst c; subst d; exact ek_0_4 _ _ _ _ _ _ _ _ _ _ _ link w hv e3 e0 e1 e2 P ⟨#[]⟩ M 0 hM.1 hM.2 hC
    · exfalso; rw [a] at b; revert b; decide
    · subst b; subst c; exact ek_48_1 _ _ _ _ _ _ _ _ _ _ _ link w hv e3 e0 e1 e2 P ⟨#[]⟩ M S hM.1 hM.2 hC
    · subst b; subst c; subst d; exact ek_48_4 _ _ _ _ _ _ _ _ _ _ _ link w hv e3 e0 e1 e2 P ⟨#[]⟩ M 0 hM.1 hM.2 hC
    · exfalso; rw [a] at b; revert b; decide
    · subst b; subst c; exact ek_55_1 _ _ _ _ _ _ _ _ _ _ _ link w hv e3 e0 e1 e2 P ⟨#[]⟩ M S hM.1 hM.2 hC
    · subst b; subst c; subst d; exact ek_55_4 _ _ _ _ _ _ _ _ _ _ _ link w hv e3 e0 e1 e2 P ⟨#[]⟩ M 0 hM.1 hM.2 hC
    · exfalso; rw [a] at b; revert b; decide
    · exact absurd a (by decide)
    · exact absurd a (by decide)
    · obtain rfl : K = 2 := a.trans (by decide)
      subst c
      rcases d with d | d
      · exact ek_49_e _ _ _ _ _ _ _ _ _ _ _ link w hv e3 e0 e1 e2 P L M 0 hM.1 hM.2 d hC
      · rw [d] at hC; exact ek_49_l _ _ _ _ _ _ _ _ _ _ _ link w hv e3 e0 e1 e2 P L M 0 hM.1 hM.2 hC
    · exact absurd a (by decide)
    · exact absurd a (by decide)
    · obtain rfl : K = 3 := a.trans (by decide)
      subst c
      rcases d with d | d
      · exact ek_50_e _ _ _ _ _ _ _ _ _ _ _ link w hv e3 e0 e1 e2 P L M 0 hM.1 hM.2 d hC
      · rw [d] at hC; exact ek_50_l _ _ _ _ _ _ _ _ _ _ _ link w hv e3 e0 e1 e2 P L M 0 hM.1 hM.2 hC
    · exact absurd a (by decide)
    · subst b; subst c; subst d; exact ek_53_4 _ _ _ _ _ _ _ _ _ _ _ link w hv e3 e0 e1 e2 P ⟨#[]⟩ M 0 hM.1 hM.2 hC
    · exfalso; rw [a] at b; revert b; decide

theorem lit_i64 {z : Int} (h : (Lit.int .i64 z).wf = true) : -9223372036854775808 ≤ z ∧ z ≤ 9223372036854775807 := by
  have h' : IntKind.i64.min ≤ z ∧ z ≤ IntKind.i64.max := by simpa [Lit.wf] using h
  have e1 : IntKind.i64.min = -9223372036854775808 := by decide
  have e2 : IntKind.i64.max = 9223372036854775807 := by decide
  omega

set_option maxRecDepth 100000 in
theorem lifted (os : Os) (started : os.Started) (H : Type) (enc : TypeId × Value → H) :
    ReturnsInHanded {} Tryd.checked os 7 .any (fun w args => (Rows.entryKindsSpec.pre enc Tryd.prog Tryd.f7 [] false w args ∧ laidMetH Tryd.prog five w) ∧ sizedMet enc Tryd.prog Tryd.f7 (OpenSpec.ofChange Rows.entryKindsSpec) false w args)
      (Rows.entryKindsSpec.post enc Tryd.prog Tryd.f7 false true false false) := by
  refine returnsInHanded_of_change_and (C := Tryd.checked) (X := fun w _ => laidMetH Tryd.prog five w) (fun _ _ _ hh h => h.of_heap hh) own started (by kernel_rfl) Tryd.func7
    (ChangeSpec.witness_at (enc := enc) (C := Tryd.checked) (os := os) (X := fun w _ => laidMetH Tryd.prog five w) false
      (start os)
      #[.agg (Hd.mk 0 noE noE noE noE noE 0 0 0 0 0 0).cells, .string ⟨#[]⟩] 8 rfl (by kernel_rfl) (by kernel_rfl) (by kernel_rfl) (by kernel_rfl) (by kernel_rfl) (laidMet_of_run' 8 (by kernel_rfl) (by kernel_rfl))) ?_
  intro W base args ds gs before hval0 hW _ hsz hL _
  have hval : ∀ (j : Nat) t v, Tryd.f7.params[j]? = some t → args[j]? = some v → Value.okWide Tryd.prog W .any base t v := hval0
  have hW' := hW
  obtain ⟨p, q, hA0, hV0, rfl, hfz, hnd⟩ := hW
  have hA : DataW.TrodAll enc Tryd.prog W 0 (fun _ => true) true Tryd.f7.params.toList args.toList ds p := hA0
  have hV : DataW.TrodVars enc Tryd.prog W (fun _ => true) [] gs q := hV0
  rw [Tryd.params7] at hA hval
  obtain ⟨v0, vs0, d0, ds0, p0, q0, hargs, rfl, rfl, h0, r0⟩ := trodAll_cons hA
  obtain ⟨v1, vs1, d1, ds1, p1, q1, rfl, rfl, rfl, h1, r1⟩ := trodAll_cons r0
  obtain ⟨rfl, rfl, rfl⟩ := trodAll_nil r1
  obtain rfl : args = #[v0, v1] := by cases args; simp_all
  obtain ⟨rfl, rfl⟩ : gs = [] ∧ q = [] := by
    cases gs with
    | nil => exact ⟨rfl, hV⟩
    | cons g r => exact absurd hV (by intro h; cases h)
  have k0 := h0
  have lt0 : ∀ x ∈ p0, x.block < W.heap.size := by obtain ⟨m, hm⟩ := k0; exact DataW.trod_lt m _ _ _ hm
  have sz0 := fun n hn => of_decide_eq_true (List.all_eq_true.1 hsz n (DataW.weights_mem_each (j := 0) (t := 23) rfl rfl n hn))
  obtain ⟨x0, rfl, fit0⟩ := open_hd (hval 0 23 v0 rfl rfl) h0 sz0
  obtain ⟨s1, rfl, rfl, rfl, m1⟩ := Go.ChangeMaps.open_string Tryd.underlying9 (hval 1 9 v1 rfl rfl) h1
  clear hA0 hval0
  refine (walk x0 s1 W (met hL) fit0 m1).mono fun e W' ⟨he, st⟩ => ?_
  subst he
  exact ⟨_, rfl, _, _, _, [], _, [], hW', trodAll_mk1 (shut_bool Tryd.underlying4 _), (trodAll_cons_mk (Below.trod laidOut (by kernel_rfl) (of_decide_eq_true (by kernel_rfl)) k0 st lt0) (trodAll_cons_mk (Go.ChangeMaps.shut_string Tryd.underlying9 m1) trodAll_mk0)), rfl, st.frame _, fun h => by cases h⟩

theorem over : Rows.EntryKindsSaid :=
  OpenClaim.holds_of_wide 7 Tryd.f7 rfl rfl rfl rfl rfl rfl rfl ⟨rfl, rfl, rfl, rfl, rfl⟩ rfl rfl rfl rfl rfl (by kernel_rfl) Tryd.func7 (by kernel_rfl)
    (of_decide_eq_true (by kernel_rfl)) (by unfold Func.isWrapper; rw [if_neg (of_decide_eq_false (by kernel_rfl))]; exact ⟨rfl, rfl⟩)
    (fun os started H enc _ => lifted os started H enc)

theorem carded : Rows.EntryKindsCardSaid :=
  Claim7.holds_tied_plain_at .later [] _ _ _ _
    over (fun _ h => by cases h) (by kernel_rfl) (fun _ h => by cases h) entryKinds_row_tie rfl ⟨rfl, rfl⟩ (by kernel_rfl) rfl
    (fun f fn hf hfn => by
      obtain rfl : f = 7 := Option.some.inj ((show Tryd.prog.funcNamed Tryd.f7.name = some 7 by kernel_rfl).symm.trans hf) |>.symm
      obtain rfl : fn = Tryd.f7 := (Option.some.inj (Tryd.func7.symm.trans hfn)).symm
      refine ⟨by kernel_rfl, fun j t ht => ?_⟩
      have hall : ∀ t ∈ Tryd.f7.params, Tryd.prog.wantsStandIn t = false := by
        rw [Tryd.params7]
        intro t ht
        simp at ht
        rcases ht with rfl | rfl <;> kernel_rfl
      exact hall t (Array.mem_of_getElem? ht))
    (by kernel_rfl)

end Go.Proofs.YtjnmmkohmfhnlaaDoor.entryKinds
namespace Go.Proofs.YtjnmmkohmfhnlaaDoor
theorem entryKinds_holds : Rows.EntryKindsCardSaid := entryKinds.carded
#print axioms entryKinds_holds
end Go.Proofs.YtjnmmkohmfhnlaaDoor
