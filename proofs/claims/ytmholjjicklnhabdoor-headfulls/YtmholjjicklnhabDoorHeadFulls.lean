/-
  The card of the law HeadFulls holds: it returns true for all prefixes and names, the variables that it lists being as the text lays them.
-/
import Derived.Test.YtmholjjicklnhabDoorLaid
import Derived.Test.YtmholjjicklnhabDoorCards
import Derived.Test.YtmholjjicklnhabDoorTie
import Derived.OpenShut
import Derived.ShutString
import Derived.ChangeOld
import Derived.ProofKit
namespace Go.Proofs.YtmholjjicklnhabDoor.headFulls
open Go.ChangeShapes Go.WideShapes Go.RowKit
set_option linter.unusedVariables false
set_option linter.unusedSimpArgs false

theorem walk_long (p n : ByteArray) (w : World) (L : Laid w) (h : 500 < p.size ∨ 500 < n.size) (m0 : p.size ≤ 9223372036854775807) (m1 : n.size ≤ 9223372036854775807) :
    Calls Tryd.prog 8 #[.string p, .string n] w fun e w' => e = .returned (.bool true) ∧ Below w.heap.size w w' := by
  by_cases c : 500 < p.size
  · have c' : (500 : Int) < (p.size : Int) := by omega
    go_enter Tryd.func8, Tryd.ntmps8
    go_wp2_with (go_at_call 9; refine (reads_ok _ L).mono ?_; rintro e w1 ⟨rfl, hb1⟩)
    go_ret
    exact ⟨rfl, hb1⟩
  · have c' : ¬ (500 : Int) < (p.size : Int) := by omega
    have c2 : (500 : Int) < (n.size : Int) := by omega
    go_enter Tryd.func8, Tryd.ntmps8
    go_wp2_with (go_at_call 9; refine (reads_ok _ L).mono ?_; rintro e w1 ⟨rfl, hb1⟩)
    go_ret
    exact ⟨rfl, hb1⟩

theorem walk_in (p n : ByteArray) (w : World) (L : Laid w) (h1 : p.size ≤ 500) (h2 : n.size ≤ 500) :
    Calls Tryd.prog 8 #[.string p, .string n] w fun e w' => e = .returned (.bool true) ∧ Below w.heap.size w w' := by
  have c1 : ¬ (500 : Int) < (p.size : Int) := by omega
  have c2 : ¬ (500 : Int) < (n.size : Int) := by omega
  have qf := fun W => full_w (.int .i64 0) n ⟨#[]⟩ p ⟨#[]⟩ ⟨#[]⟩ (.int .u8 0) (.int .i64 0) (.int .i64 0) (.int .i64 0) (.int .i64 0) (.int .i64 0) W (by omega) (by omega)
  unfold fullT at qf
  cases hE : p.toList.isEmpty with
  | true =>
    simp only [hE, if_true] at qf
    go_enter Tryd.func8, Tryd.ntmps8
    go_wp2_with (first | (go_at_call 9; refine (reads_ok _ L).mono ?_; rintro e w1 ⟨rfl, hb1⟩) | (go_at_call 18; refine (qf _).mono ?_; rintro e w2 ⟨rfl, b2⟩))
    go_ret
    exact ⟨by first | rfl | simp, (hb1.alloc hb1.size _).trans (b2.mono (hb1.alloc hb1.size _).size)⟩
  | false =>
    simp only [hE, Bool.false_eq_true, if_false] at qf
    have s1 : (p ++ (⟨#[47]⟩ : ByteArray)).size = p.size + 1 := by simp [ByteArray.size_append]; rfl
    have s2 : (p ++ (⟨#[47]⟩ : ByteArray) ++ n).size = p.size + 1 + n.size := by simp [ByteArray.size_append]; rfl
    go_enter Tryd.func8, Tryd.ntmps8
    go_wp2_with (first | (go_at_call 9; refine (reads_ok _ L).mono ?_; rintro e w1 ⟨rfl, hb1⟩) | (go_at_call 18; refine (qf _).mono ?_; rintro e w2 ⟨rfl, b2⟩))
    go_ret
    exact ⟨by first | rfl | simp, (hb1.alloc hb1.size _).trans (b2.mono (hb1.alloc hb1.size _).size)⟩

theorem walk (p n : ByteArray) (w : World) (L : Laid w) (m0 : p.size ≤ 9223372036854775807) (m1 : n.size ≤ 9223372036854775807) :
    Calls Tryd.prog 8 #[.string p, .string n] w fun e w' => e = .returned (.bool true) ∧ Below w.heap.size w w' := by
  by_cases c : 500 < p.size ∨ 500 < n.size
  · exact walk_long p n w L c m0 m1
  · exact walk_in p n w L (by omega) (by omega)

theorem lit_i64 {z : Int} (h : (Lit.int .i64 z).wf = true) : -9223372036854775808 ≤ z ∧ z ≤ 9223372036854775807 := by
  have h' : IntKind.i64.min ≤ z ∧ z ≤ IntKind.i64.max := by simpa [Lit.wf] using h
  have e1 : IntKind.i64.min = -9223372036854775808 := by decide
  have e2 : IntKind.i64.max = 9223372036854775807 := by decide
  omega

set_option maxRecDepth 100000 in
theorem lifted (os : Os) (started : os.Started) (H : Type) (enc : TypeId × Value → H) :
    ReturnsInHanded {} Tryd.checked os 8 .any (fun w args => (Rows.headFullsSpec.pre enc Tryd.prog Tryd.f8 [] false w args ∧ laidMetH Tryd.prog seven w) ∧ sizedMet enc Tryd.prog Tryd.f8 (OpenSpec.ofChange Rows.headFullsSpec) false w args)
      (Rows.headFullsSpec.post enc Tryd.prog Tryd.f8 false true false false) := by
  refine returnsInHanded_of_change_and (C := Tryd.checked) (X := fun w _ => laidMetH Tryd.prog seven w) (fun _ _ _ hh h => h.of_heap hh) own started (by kernel_rfl) Tryd.func8
    (ChangeSpec.witness_at (enc := enc) (C := Tryd.checked) (os := os) (X := fun w _ => laidMetH Tryd.prog seven w) false
      (start os)
      #[.string ⟨#[]⟩, .string ⟨#[]⟩] 8 rfl (by kernel_rfl) (by kernel_rfl) (by kernel_rfl) (by kernel_rfl) (by kernel_rfl) (laidMet_of_run' 8 (by kernel_rfl) (by kernel_rfl))) ?_
  intro W base args ds gs before hval0 hW _ hsz hL _
  have hval : ∀ (j : Nat) t v, Tryd.f8.params[j]? = some t → args[j]? = some v → Value.okWide Tryd.prog W .any base t v := hval0
  have hW' := hW
  obtain ⟨p, q, hA0, hV0, rfl, hfz, hnd⟩ := hW
  have hA : DataW.TrodAll enc Tryd.prog W 0 (fun _ => true) true Tryd.f8.params.toList args.toList ds p := hA0
  have hV : DataW.TrodVars enc Tryd.prog W (fun _ => true) [] gs q := hV0
  rw [Tryd.params8] at hA hval
  obtain ⟨v0, vs0, d0, ds0, p0, q0, hargs, rfl, rfl, h0, r0⟩ := trodAll_cons hA
  obtain ⟨v1, vs1, d1, ds1, p1, q1, rfl, rfl, rfl, h1, r1⟩ := trodAll_cons r0
  obtain ⟨rfl, rfl, rfl⟩ := trodAll_nil r1
  obtain rfl : args = #[v0, v1] := by cases args; simp_all
  obtain ⟨rfl, rfl⟩ : gs = [] ∧ q = [] := by
    cases gs with
    | nil => exact ⟨rfl, hV⟩
    | cons g r => exact absurd hV (by intro h; cases h)
  obtain ⟨s0, rfl, rfl, rfl, m0⟩ := Go.ChangeMaps.open_string Tryd.underlying9 (hval 0 9 v0 rfl rfl) h0
  obtain ⟨s1, rfl, rfl, rfl, m1⟩ := Go.ChangeMaps.open_string Tryd.underlying9 (hval 1 9 v1 rfl rfl) h1
  clear hA0 hval0
  refine (walk s0 s1 W (met hL) m0 m1).mono fun e W' ⟨he, st⟩ => ?_
  subst he
  exact ⟨_, rfl, _, _, _, [], _, [], hW', trodAll_mk1 (shut_bool Tryd.underlying4 _), (trodAll_cons_mk (Go.ChangeMaps.shut_string Tryd.underlying9 m0) (trodAll_cons_mk (Go.ChangeMaps.shut_string Tryd.underlying9 m1) trodAll_mk0)), rfl, st.frame _, fun h => by cases h⟩

theorem over : Rows.HeadFullsSaid :=
  OpenClaim.holds_of_wide 8 Tryd.f8 rfl rfl rfl rfl rfl rfl rfl ⟨rfl, rfl, rfl, rfl, rfl⟩ rfl rfl rfl rfl rfl (by kernel_rfl) Tryd.func8 (by kernel_rfl)
    (of_decide_eq_true (by kernel_rfl)) (by unfold Func.isWrapper; rw [if_neg (of_decide_eq_false (by kernel_rfl))]; exact ⟨rfl, rfl⟩)
    (fun os started H enc _ => lifted os started H enc)

theorem carded : Rows.HeadFullsCardSaid :=
  Claim7.holds_tied_plain_at .later [] _ _ _ _
    over (fun _ h => by cases h) (by kernel_rfl) (fun _ h => by cases h) headFulls_row_tie rfl ⟨rfl, rfl⟩ (by kernel_rfl) rfl
    (fun f fn hf hfn => by
      obtain rfl : f = 8 := Option.some.inj ((show Tryd.prog.funcNamed Tryd.f8.name = some 8 by kernel_rfl).symm.trans hf) |>.symm
      obtain rfl : fn = Tryd.f8 := (Option.some.inj (Tryd.func8.symm.trans hfn)).symm
      refine ⟨by kernel_rfl, fun j t ht => ?_⟩
      have hall : ∀ t ∈ Tryd.f8.params, Tryd.prog.wantsStandIn t = false := by
        rw [Tryd.params8]
        intro t ht
        simp at ht
        rcases ht with rfl | rfl <;> kernel_rfl
      exact hall t (Array.mem_of_getElem? ht))
    (by kernel_rfl)

end Go.Proofs.YtmholjjicklnhabDoor.headFulls
namespace Go.Proofs.YtmholjjicklnhabDoor
theorem headFulls_holds : Rows.HeadFullsCardSaid := headFulls.carded
#print axioms headFulls_holds
end Go.Proofs.YtmholjjicklnhabDoor
