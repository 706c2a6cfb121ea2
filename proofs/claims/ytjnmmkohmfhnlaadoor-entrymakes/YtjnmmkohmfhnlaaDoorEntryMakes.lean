/-
  The card of the law EntryMakes holds: it returns true for every header and all that may stand ahead of it, the variables of the library that it lists being as the program text lays them.
-/
import Derived.Test.YtjnmmkohmfhnlaaDoorLaid
import Derived.Test.YtjnmmkohmfhnlaaDoorCards
import Derived.Test.YtjnmmkohmfhnlaaDoorTie
import Derived.Test.YtjnmmkohmfhnlaaDoorMa1
import Derived.OpenShut
import Derived.ShutString
import Derived.ChangeOld
import Derived.ProofKit
import Derived.ChangeMaps5
namespace Go.Proofs.YtjnmmkohmfhnlaaDoor.entryMakes
open Go.ChangeShapes Go.WideShapes Go.RowKit
set_option linter.unusedVariables false
set_option linter.unusedSimpArgs false


set_option maxRecDepth 100000 in
set_option maxHeartbeats 2000000 in
theorem walk_out (x : Hd) (a : Ah) (w : World) (hV : Vs w) (fa : AhFit a w) (h : 70 < a.ln ∨ 70 < a.gn) :
    Calls Tryd.prog 3 #[.agg x.cells, .agg a.cells] w fun e w' => e = .returned (.bool true) ∧ Below w.heap.size w w' := by
  have HW2 : Hid (Below w.heap.size w ((w.alloc (.cells x.cells 23)).alloc (.cells a.cells 26))) := ((Below.refl _ w).alloc (Nat.le_refl _) _).alloc (by simp) _
  have HBox : Hid (Boxed ((w.alloc (.cells x.cells 23)).alloc (.cells a.cells 26)) w.heap.size x a) := boxed w x a
  have q := makes_w _ (hV.below HW2.out)
  obtain ⟨lad, lcap, hlv, _, _⟩ := fa.l.1.cells
  obtain ⟨gad, gcap, hgv, _, _⟩ := fa.g.1.cells
  clear fa hV
  obtain ⟨form, name, link, prefx, user, group, typ, mode, uid, gid, size, mtime⟩ := x
  obtain ⟨gv, lv, gK, gV, gn, lK, lV, ln, aname, alink⟩ := a
  simp only at hlv hgv h
  subst hlv hgv
  simp only [Hd.cells, Ah.cells] at HW2 q ⊢
  by_cases h1 : 70 < ln
  · have i1 : (70 : Int) < (ln : Int) := by omega
    clear h
    go_enter Tryd.func3, Tryd.ntmps3
    go_wp2_with (go_at_call 9; refine q.mono ?_; rintro e w1 ⟨rfl, hb⟩; have HB1 : Hid (Boxed w1 w.heap.size ⟨form, name, link, prefx, user, group, typ, mode, uid, gid, size, mtime⟩ ⟨.slice gad gn gcap, .slice lad ln lcap, gK, gV, gn, lK, lV, ln, aname, alink⟩) := HBox.out.grow hb; have a0 : w1.cell? ⟨w.heap.size + 1, 0, none⟩ = some (.slice gad gn gcap) := HB1.out.ac 0; have a1 : w1.cell? ⟨w.heap.size + 1, 1, none⟩ = some (.slice lad ln lcap) := HB1.out.ac 1; have HW1 : Hid (Below w.heap.size w w1) := HW2.out.trans (hb.mono HW2.out.size); clear hb)
    all_goals go_ret
    all_goals exact ⟨by first | rfl | simp, HW1.out⟩
  · have i1 : ¬ (70 : Int) < (ln : Int) := by omega
    have i2 : (70 : Int) < (gn : Int) := by omega
    clear h
    go_enter Tryd.func3, Tryd.ntmps3
    go_wp2_with (go_at_call 9; refine q.mono ?_; rintro e w1 ⟨rfl, hb⟩; have HB1 : Hid (Boxed w1 w.heap.size ⟨form, name, link, prefx, user, group, typ, mode, uid, gid, size, mtime⟩ ⟨.slice gad gn gcap, .slice lad ln lcap, gK, gV, gn, lK, lV, ln, aname, alink⟩) := HBox.out.grow hb; have a0 : w1.cell? ⟨w.heap.size + 1, 0, none⟩ = some (.slice gad gn gcap) := HB1.out.ac 0; have a1 : w1.cell? ⟨w.heap.size + 1, 1, none⟩ = some (.slice lad ln lcap) := HB1.out.ac 1; have HW1 : Hid (Below w.heap.size w w1) := HW2.out.trans (hb.mono HW2.out.size); clear hb)
    all_goals go_ret
    all_goals exact ⟨by first | rfl | simp, HW1.out⟩

theorem walk (x : Hd) (a : Ah) (w : World) (hV : Vs w) (fx : HdFit x) (fa : AhFit a w) :
    Calls Tryd.prog 3 #[.agg x.cells, .agg a.cells] w fun e w' => e = .returned (.bool true) ∧ Below w.heap.size w w' := by
  by_cases h : 70 < a.ln ∨ 70 < a.gn
  · exact walk_out x a w hV fa h
  · exact walk_in x a w hV fx fa (by omega) (by omega)


theorem lit_i64 {z : Int} (h : (Lit.int .i64 z).wf = true) : -9223372036854775808 ≤ z ∧ z ≤ 9223372036854775807 := by
  have h' : IntKind.i64.min ≤ z ∧ z ≤ IntKind.i64.max := by simpa [Lit.wf] using h
  have e1 : IntKind.i64.min = -9223372036854775808 := by decide
  have e2 : IntKind.i64.max = 9223372036854775807 := by decide
  omega

set_option maxRecDepth 100000 in
theorem lifted (os : Os) (started : os.Started) (H : Type) (enc : TypeId × Value → H) :
    ReturnsInHanded {} Tryd.checked os 3 .any (fun w args => (Rows.entryMakesSpec.pre enc Tryd.prog Tryd.f3 [] false w args ∧ laidMetH Tryd.prog five w) ∧ sizedMet enc Tryd.prog Tryd.f3 (OpenSpec.ofChange Rows.entryMakesSpec) false w args)
      (Rows.entryMakesSpec.post enc Tryd.prog Tryd.f3 false true false false) := by
  refine returnsInHanded_of_change_and (C := Tryd.checked) (X := fun w _ => laidMetH Tryd.prog five w) (fun _ _ _ hh h => h.of_heap hh) own started (by kernel_rfl) Tryd.func3
    (ChangeSpec.witness_at (enc := enc) (C := Tryd.checked) (os := os) (X := fun w _ => laidMetH Tryd.prog five w) false
      (start os)
      #[.agg (Hd.mk 0 noE noE noE noE noE 0 0 0 0 0 0).cells, .agg (noA noE noE).cells] 8 rfl (by kernel_rfl) (by kernel_rfl) (by kernel_rfl) (by kernel_rfl) (by kernel_rfl) (laidMet_of_run' 8 (by kernel_rfl) (by kernel_rfl))) ?_
  intro W base args ds gs before hval0 hW _ hsz hL _
  have hval : ∀ (j : Nat) t v, Tryd.f3.params[j]? = some t → args[j]? = some v → Value.okWide Tryd.prog W .any base t v := hval0
  have hW' := hW
  obtain ⟨p, q, hA0, hV0, rfl, hfz, hnd⟩ := hW
  have hA : DataW.TrodAll enc Tryd.prog W 0 (fun _ => true) true Tryd.f3.params.toList args.toList ds p := hA0
  have hV : DataW.TrodVars enc Tryd.prog W (fun _ => true) [] gs q := hV0
  rw [Tryd.params3] at hA hval
  obtain ⟨v0, vs0, d0, ds0, p0, q0, hargs, rfl, rfl, h0, r0⟩ := trodAll_cons hA
  obtain ⟨v1, vs1, d1, ds1, p1, q1, rfl, rfl, rfl, h1, r1⟩ := trodAll_cons r0
  obtain ⟨rfl, rfl, rfl⟩ := trodAll_nil r1
  obtain rfl : args = #[v0, v1] := by cases args; simp_all
  obtain ⟨rfl, rfl⟩ : gs = [] ∧ q = [] := by
    cases gs with
    | nil => exact ⟨rfl, hV⟩
    | cons g r => exact absurd hV (by intro h; cases h)
  have k0 := h0
  have lt0 : ∀ x ∈ p0, x.block < W.heap.size := by obtain ⟨m, hm⟩ := k0; exact DataW.trod_lt m _ _ _ hm
  have sz0 := fun n hn => of_decide_eq_true (List.all_eq_true.1 hsz n (DataW.weights_mem_each (j := 0) (t := 23) rfl rfl n hn))
  obtain ⟨x0, rfl, fit0⟩ := open_hd (hval 0 23 v0 rfl rfl) h0 sz0
  have k1 := h1
  have lt1 : ∀ x ∈ p1, x.block < W.heap.size := by obtain ⟨m, hm⟩ := k1; exact DataW.trod_lt m _ _ _ hm
  have sz1 := fun n hn => of_decide_eq_true (List.all_eq_true.1 hsz n (DataW.weights_mem_each (j := 1) (t := 26) rfl rfl n hn))
  obtain ⟨x1, rfl, fit1⟩ := open_ah (hval 1 26 v1 rfl rfl) h1 sz1
  clear hA0 hval0
  refine (walk x0 x1 W (met hL) fit0 fit1).mono fun e W' ⟨he, st⟩ => ?_
  subst he
  exact ⟨_, rfl, _, _, _, [], _, [], hW', trodAll_mk1 (shut_bool Tryd.underlying4 _), (trodAll_cons_mk (Below.trod laidOut (by kernel_rfl) (of_decide_eq_true (by kernel_rfl)) k0 st lt0) (trodAll_cons_mk (Below.trod laidOut (by kernel_rfl) (of_decide_eq_true (by kernel_rfl)) k1 st lt1) trodAll_mk0)), rfl, st.frame _, fun h => by cases h⟩

theorem over : Rows.EntryMakesSaid :=
  OpenClaim.holds_of_wide 3 Tryd.f3 rfl rfl rfl rfl rfl rfl rfl ⟨rfl, rfl, rfl, rfl, rfl⟩ rfl rfl rfl rfl rfl (by kernel_rfl) Tryd.func3 (by kernel_rfl)
    (of_decide_eq_true (by kernel_rfl)) (by unfold Func.isWrapper; rw [if_neg (of_decide_eq_false (by kernel_rfl))]; exact ⟨rfl, rfl⟩)
    (fun os started H enc _ => lifted os started H enc)

theorem carded : Rows.EntryMakesCardSaid :=
  Claim7.holds_tied_plain_at .later [] _ _ _ _
    over (fun _ h => by cases h) (by kernel_rfl) (fun _ h => by cases h) entryMakes_row_tie rfl ⟨rfl, rfl⟩ (by kernel_rfl) rfl
    (fun f fn hf hfn => by
      obtain rfl : f = 3 := Option.some.inj ((show Tryd.prog.funcNamed Tryd.f3.name = some 3 by kernel_rfl).symm.trans hf) |>.symm
      obtain rfl : fn = Tryd.f3 := (Option.some.inj (Tryd.func3.symm.trans hfn)).symm
      refine ⟨by kernel_rfl, fun j t ht => ?_⟩
      have hall : ∀ t ∈ Tryd.f3.params, Tryd.prog.wantsStandIn t = false := by
        rw [Tryd.params3]
        intro t ht
        simp at ht
        rcases ht with rfl | rfl <;> kernel_rfl
      exact hall t (Array.mem_of_getElem? ht))
    (by kernel_rfl)

end Go.Proofs.YtjnmmkohmfhnlaaDoor.entryMakes
namespace Go.Proofs.YtjnmmkohmfhnlaaDoor
theorem entryMakes_holds : Rows.EntryMakesCardSaid := entryMakes.carded
#print axioms entryMakes_holds
end Go.Proofs.YtjnmmkohmfhnlaaDoor
