/-
  The card of the law EntryNumbers holds: it returns true for every value, number and key, the variables of the library that it lists being as the program text lays them.
-/
import Derived.Test.YtjnmmkohmfhnlaaDoorLaid
import Derived.Test.YtjnmmkohmfhnlaaDoorCards
import Derived.Test.YtjnmmkohmfhnlaaDoorTie
import Derived.Test.YtjnmmkohmfhnlaaDoorEn1
import Derived.Test.YtjnmmkohmfhnlaaDoorEn2
import Derived.ShutString
import Derived.ChangeOld
import Derived.ProofKit
import Derived.ChangeMaps5
namespace Go.Proofs.YtjnmmkohmfhnlaaDoor.entryNumbers
open Go.ChangeShapes Go.WideShapes Go.RowKit
set_option linter.unusedVariables false
set_option linter.unusedSimpArgs false

theorem nval_none : nval ⟨#[]⟩ = none := by decide +kernel

theorem emp_false {v : ByteArray} (h : ¬ emp v = true) : v.toList.isEmpty = false := by
  unfold emp at h
  simpa using h

theorem walk_key (k : Nat) (hk : k < 4) (v : ByteArray) (s : Int) (w : World) (hV : Vs w) (hv : v.size ≤ 200) (hs : 0 ≤ s) :
    Calls Tryd.prog 6 #[.string v, .int .i64 s, .int .i64 (k : Int)] w fun e w' => e = .returned (.bool true) ∧ Below w.heap.size w w' := by
  have q := makes_w w hV
  have hN := fun W (hb : Below w.heap.size w W) => number_w v (by omega) W (hV.below hb)
  by_cases he : emp v = true
  · obtain rfl := emp_true he
    have ht : theN ⟨#[]⟩ s = some s := by unfold theN; rw [he]; rfl
    have hQ := num_ok k hk ⟨#[]⟩ s s hs hv w hV ht (by omega)
    rw [nval_none] at hN
    match k, hk with
    | 0, _ => exact en_0_e ⟨#[]⟩ s 0 w hv hs q hQ hN
    | 1, _ => exact en_1_e ⟨#[]⟩ s 0 w hv hs q hQ hN
    | 2, _ => exact en_2_e ⟨#[]⟩ s 0 w hv hs q hQ hN
    | 3, _ => exact en_3_e ⟨#[]⟩ s 0 w hv hs q hQ hN
  have hne := emp_false he
  have ht : theN v s = nval v := by unfold theN; rw [if_neg he]
  cases hnv : nval v with
  | none =>
    rw [hnv] at hN ht
    have hQ := num_bad k hk v s hv w hV ht
    match k, hk with
    | 0, _ => exact en_0_b v s 0 w hv hs hne q hQ hN
    | 1, _ => exact en_1_b v s 0 w hv hs hne q hQ hN
    | 2, _ => exact en_2_b v s 0 w hv hs hne q hQ hN
    | 3, _ => exact en_3_b v s 0 w hv hs hne q hQ hN
  | some n =>
    rw [hnv] at hN ht
    by_cases hn : n < 0 ∧ ¬ k = 3
    · have hQ := num_neg k hk v s n hs hv w hV ht hn.1 hn.2
      match k, hk with
      | 0, _ => exact en_0_n v s n w hv hs hne hn.1 q hQ hN
      | 1, _ => exact en_1_n v s n w hv hs hne hn.1 q hQ hN
      | 2, _ => exact en_2_n v s n w hv hs hne hn.1 q hQ hN
      | 3, _ => exact absurd rfl hn.2
    · have hQ := num_ok k hk v s n hs hv w hV ht hn
      match k, hk with
      | 0, _ => exact en_0_o v s n w hv hs hne (by omega) q hQ hN
      | 1, _ => exact en_1_o v s n w hv hs hne (by omega) q hQ hN
      | 2, _ => exact en_2_o v s n w hv hs hne (by omega) q hQ hN
      | 3, _ => exact en_3_o v s n w hv hs hne q hQ hN

set_option maxHeartbeats 1000000 in
theorem walk (v : ByteArray) (s k : Int) (w : World) (hV : Vs w) (hm : v.size ≤ 9223372036854775807) :
    Calls Tryd.prog 6 #[.string v, .int .i64 s, .int .i64 k] w fun e w' => e = .returned (.bool true) ∧ Below w.heap.size w w' := by
  have q := makes_w w hV
  by_cases c1 : 200 < v.size
  · have c1' : (200 : Int) < (v.size : Int) := by omega
    go_enter Tryd.func6, Tryd.ntmps6
    go_wp2_with (go_at_call 9; refine q.mono ?_; rintro e w1 ⟨rfl, hb⟩)
    go_ret
    exact ⟨rfl, hb⟩
  have c1' : ¬ (200 : Int) < (v.size : Int) := by omega
  by_cases c2 : k < 0
  · go_enter Tryd.func6, Tryd.ntmps6
    go_wp2_with (go_at_call 9; refine q.mono ?_; rintro e w1 ⟨rfl, hb⟩)
    go_ret
    exact ⟨rfl, hb⟩
  by_cases c3 : 3 < k
  · go_enter Tryd.func6, Tryd.ntmps6
    go_wp2_with (go_at_call 9; refine q.mono ?_; rintro e w1 ⟨rfl, hb⟩)
    go_ret
    exact ⟨rfl, hb⟩
  by_cases c4 : s < 0
  · go_enter Tryd.func6, Tryd.ntmps6
    go_wp2_with (go_at_call 9; refine q.mono ?_; rintro e w1 ⟨rfl, hb⟩)
    go_ret
    exact ⟨rfl, hb⟩
  obtain ⟨j, rfl⟩ := Int.eq_ofNat_of_zero_le (show 0 ≤ k by omega)
  exact walk_key j (by omega) v s w hV (by omega) (by omega)

theorem lit_i64 {z : Int} (h : (Lit.int .i64 z).wf = true) : -9223372036854775808 ≤ z ∧ z ≤ 9223372036854775807 := by
  have h' : IntKind.i64.min ≤ z ∧ z ≤ IntKind.i64.max := by simpa [Lit.wf] using h
  have e1 : IntKind.i64.min = -9223372036854775808 := by decide
  have e2 : IntKind.i64.max = 9223372036854775807 := by decide
  omega

set_option maxRecDepth 100000 in
theorem lifted (os : Os) (started : os.Started) (H : Type) (enc : TypeId × Value → H) :
    ReturnsInHanded {} Tryd.checked os 6 .any (fun w args => (Rows.entryNumbersSpec.pre enc Tryd.prog Tryd.f6 [] false w args ∧ laidMetH Tryd.prog five w) ∧ sizedMet enc Tryd.prog Tryd.f6 (OpenSpec.ofChange Rows.entryNumbersSpec) false w args)
      (Rows.entryNumbersSpec.post enc Tryd.prog Tryd.f6 false true false false) := by
  refine returnsInHanded_of_change_and (C := Tryd.checked) (X := fun w _ => laidMetH Tryd.prog five w) (fun _ _ _ hh h => h.of_heap hh) own started (by kernel_rfl) Tryd.func6
    (ChangeSpec.witness_at (enc := enc) (C := Tryd.checked) (os := os) (X := fun w _ => laidMetH Tryd.prog five w) false
      (start os)
      #[.string ⟨#[]⟩, .int .i64 0, .int .i64 0] 8 rfl (by kernel_rfl) (by kernel_rfl) (by kernel_rfl) (by kernel_rfl) (by kernel_rfl) (laidMet_of_run' 8 (by kernel_rfl) (by kernel_rfl))) ?_
  intro W base args ds gs before hval0 hW _ hsz hL _
  have hval : ∀ (j : Nat) t v, Tryd.f6.params[j]? = some t → args[j]? = some v → Value.okWide Tryd.prog W .any base t v := hval0
  have hW' := hW
  obtain ⟨p, q, hA0, hV0, rfl, hfz, hnd⟩ := hW
  have hA : DataW.TrodAll enc Tryd.prog W 0 (fun _ => true) true Tryd.f6.params.toList args.toList ds p := hA0
  have hV : DataW.TrodVars enc Tryd.prog W (fun _ => true) [] gs q := hV0
  rw [Tryd.params6] at hA hval
  obtain ⟨v0, vs0, d0, ds0, p0, q0, hargs, rfl, rfl, h0, r0⟩ := trodAll_cons hA
  obtain ⟨v1, vs1, d1, ds1, p1, q1, rfl, rfl, rfl, h1, r1⟩ := trodAll_cons r0
  obtain ⟨v2, vs2, d2, ds2, p2, q2, rfl, rfl, rfl, h2, r2⟩ := trodAll_cons r1
  obtain ⟨rfl, rfl, rfl⟩ := trodAll_nil r2
  obtain rfl : args = #[v0, v1, v2] := by cases args; simp_all
  obtain ⟨rfl, rfl⟩ : gs = [] ∧ q = [] := by
    cases gs with
    | nil => exact ⟨rfl, hV⟩
    | cons g r => exact absurd hV (by intro h; cases h)
  obtain ⟨s0, rfl, rfl, rfl, m0⟩ := Go.ChangeMaps.open_string Tryd.underlying9 (hval 0 9 v0 rfl rfl) h0
  obtain ⟨a1, rfl, rfl, rfl, w1⟩ := open_int Tryd.underlying2 (hval 1 2 v1 rfl rfl) h1
  obtain ⟨a2, rfl, rfl, rfl, w2⟩ := open_int Tryd.underlying3 (hval 2 3 v2 rfl rfl) h2
  clear hA0 hval0
  refine (walk s0 a1 a2 W (met hL) m0).mono fun e W' ⟨he, st⟩ => ?_
  subst he
  exact ⟨_, rfl, _, _, _, [], _, [], hW', trodAll_mk1 (shut_bool Tryd.underlying4 _), (trodAll_cons_mk (Go.ChangeMaps.shut_string Tryd.underlying9 m0) (trodAll_cons_mk (shut_int Tryd.underlying2 w1) (trodAll_cons_mk (shut_int Tryd.underlying3 w2) trodAll_mk0))), rfl, st.frame _, fun h => by cases h⟩

theorem over : Rows.EntryNumbersSaid :=
  OpenClaim.holds_of_wide 6 Tryd.f6 rfl rfl rfl rfl rfl rfl rfl ⟨rfl, rfl, rfl, rfl, rfl⟩ rfl rfl rfl rfl rfl (by kernel_rfl) Tryd.func6 (by kernel_rfl)
    (of_decide_eq_true (by kernel_rfl)) (by unfold Func.isWrapper; rw [if_neg (of_decide_eq_false (by kernel_rfl))]; exact ⟨rfl, rfl⟩)
    (fun os started H enc _ => lifted os started H enc)

theorem carded : Rows.EntryNumbersCardSaid :=
  Claim7.holds_tied_plain_at .later [] _ _ _ _
    over (fun _ h => by cases h) (by kernel_rfl) (fun _ h => by cases h) entryNumbers_row_tie rfl ⟨rfl, rfl⟩ (by kernel_rfl) rfl
    (fun f fn hf hfn => by
      obtain rfl : f = 6 := Option.some.inj ((show Tryd.prog.funcNamed Tryd.f6.name = some 6 by kernel_rfl).symm.trans hf) |>.symm
      obtain rfl : fn = Tryd.f6 := (Option.some.inj (Tryd.func6.symm.trans hfn)).symm
      refine ⟨by kernel_rfl, fun j t ht => ?_⟩
      have hall : ∀ t ∈ Tryd.f6.params, Tryd.prog.wantsStandIn t = false := by
        rw [Tryd.params6]
        intro t ht
        simp at ht
        rcases ht with rfl | rfl | rfl <;> kernel_rfl
      exact hall t (Array.mem_of_getElem? ht))
    (by kernel_rfl)

end Go.Proofs.YtjnmmkohmfhnlaaDoor.entryNumbers
namespace Go.Proofs.YtjnmmkohmfhnlaaDoor
theorem entryNumbers_holds : Rows.EntryNumbersCardSaid := entryNumbers.carded
#print axioms entryNumbers_holds
end Go.Proofs.YtjnmmkohmfhnlaaDoor
