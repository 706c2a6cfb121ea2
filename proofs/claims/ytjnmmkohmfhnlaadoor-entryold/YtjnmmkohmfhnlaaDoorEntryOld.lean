/-
  The card of the law EntryOld holds: it returns true for every form and path, the variables of the library that it lists being as the program text lays them.
-/
import Derived.Test.YtjnmmkohmfhnlaaDoorLaid
import Derived.Test.YtjnmmkohmfhnlaaDoorCards
import Derived.Test.YtjnmmkohmfhnlaaDoorTie
import Derived.OpenShut
import Derived.ShutString
import Derived.ChangeOld
import Derived.ProofKit
import Derived.ChangeMaps5
namespace Go.Proofs.YtjnmmkohmfhnlaaDoor.entryOld
open Go.ChangeShapes Go.WideShapes Go.RowKit
set_option linter.unusedVariables false
set_option linter.unusedSimpArgs false

theorem slash_at (s : ByteArray) (h : 0 < s.size) : slashB s = decide (((s[s.size - 1]'(by omega)).toNat : Int) = 47) := by
  unfold slashB
  rw [if_neg (by omega)]
  have e : endS s = ⟨#[s[s.size - 1]'(by omega)]⟩ := by
    unfold endS
    apply ByteArray.ext
    rw [ByteArray.data_extract]
    have hs : s.data.size = s.size := rfl
    apply Array.ext
    · simp only [Array.size_extract, hs]
      show _ = 1
      omega
    · intro i h1 h2
      have hi : i = 0 := by
        have h3 : i < 1 := h2
        omega
      subst hi
      rw [Array.getElem_extract]
      rfl
  rw [e]
  unfold oneS
  by_cases c : ((s[s.size - 1]'(by omega)).toNat : Int) = 47
  · rw [decide_eq_true c]
    have : s[s.size - 1]'(by omega) = 47 := by
      apply UInt8.toNat.inj
      show _ = 47
      omega
    rw [this]
    simp
  · rw [decide_eq_false c]
    apply decide_eq_false
    intro h1
    apply c
    have h2 : s[s.size - 1]'(by omega) = 47 := by
      have := congrArg (fun b : ByteArray => b.data[0]?) h1
      simpa using this
    rw [h2]
    rfl

def hOld (f : Int) (p : ByteArray) : Hd := ⟨f, p, noE, noE, noE, noE, 48, 0, 0, 0, 3, 0⟩
def kOld (f : Int) (p : ByteArray) : Int := if f = 0 ∧ slashB p = true then 4 else 1
def sOld (f : Int) (p : ByteArray) : Int := if f = 0 ∧ slashB p = true then 0 else 3

theorem old_full (f : Int) (p : ByteArray) : fullE (hOld f p) (noA noE noE) = ⟨p, noE, kOld f p, 0, 0, 0, 0, sOld f p, noE, noE⟩ := by
  have e1 : kd (hOld f p).typ = 1 := by show kd 48 = 1; decide
  have e2 : bits .and .i64 (hOld f p).mode 4095 = 0 := by show bits .and .i64 0 4095 = 0; decide +kernel
  have e3 : (hOld f p).full = p := by unfold Hd.full; rw [show emp (hOld f p).prefx = true from emp_none]; rfl
  rw [noA_full, e1, e2, e3, or2_none, or2_none]
  show settleF _ f = _
  unfold settleF kindF kOld sOld
  simp only
  by_cases c : f = 0 ∧ slashB p = true
  · obtain ⟨rfl, hs⟩ := c
    simp [hs, noE, hOld]
  · simp only [true_and, if_neg c]
    simp [noE, hOld]

theorem old_make (f : Int) (p : ByteArray) (w : World) (hv : Vs w) (hp : p.size ≤ 500) :
    Calls Tryd.prog 10 #[.agg (hOld f p).cells, .agg (noA noE noE).cells] w fun ev w' => ev = .returned (.tuple #[.agg (En.mk p noE (kOld f p) 0 0 0 0 (sOld f p) noE noE).cells, .int .i64 0]) ∧ Below w.heap.size w w' := by
  have hn : ¬ neg (hOld f p) (noA noE noE) := by
    unfold neg
    rw [old_full]
    show ¬ (sOld f p < 0 ∨ (0 : Int) < 0 ∨ (0 : Int) < 0)
    unfold sOld
    split <;> omega
  have q := make_ok (noA_fit (hOld f p) noE noE w (by show (0 : Nat) ≤ _; omega) (by show p.size ≤ _; omega) (by show (0 : Nat) ≤ _; omega)) hv (by show ¬ kd 48 = 0; decide) (noA_bad _ _ _) hn
  rw [old_full] at q
  exact q

set_option maxHeartbeats 2000000 in
theorem walk_in (f : Int) (p : ByteArray) (w : World) (hv : Vs w) (f0 : 0 ≤ f) (f1 : f ≤ 2) (hp : p.size ≤ 500) :
    Calls Tryd.prog 8 #[.int .i64 f, .string p] w fun e w' => e = .returned (.bool true) ∧ Below w.heap.size w w' := by
  have q := makes_w w hv
  have HV : Hid (∀ W, Below w.heap.size w W → Vs W) := fun W h => hv.below h
  have qm : Hid (∀ W, Below w.heap.size w W → Calls Tryd.prog 10 #[.agg #[.int .i64 f, .string p, .string ⟨#[]⟩, .string ⟨#[]⟩, .string ⟨#[]⟩, .string ⟨#[]⟩, .int .u8 48, .int .i64 0, .int .i64 0, .int .i64 0, .int .i64 3, .int .i64 0], .agg #[.slice none 0 0, .slice none 0 0, .string ⟨#[]⟩, .string ⟨#[]⟩]] W fun ev w' => ev = .returned (.tuple #[.agg #[.string p, .string ⟨#[]⟩, .int .i64 (kOld f p), .int .i64 0, .int .i64 0, .int .i64 0, .int .i64 0, .int .i64 (sOld f p), .string ⟨#[]⟩, .string ⟨#[]⟩], .int .i64 0]) ∧ Below W.heap.size W w') := fun W h => old_make f p W (HV.out W h) hp
  have g0 : ¬ f < 0 := by omega
  have g1 : ¬ 2 < f := by omega
  have g2 : ¬ (500 : Int) < (p.size : Int) := by omega
  by_cases hz : p.size = 0
  · have hs : slashB p = false := by unfold slashB; rw [if_pos hz]
    have hk : kOld f p = 1 := by unfold kOld; rw [if_neg (by rw [hs]; simp)]
    have hS : sOld f p = 3 := by unfold sOld; rw [if_neg (by rw [hs]; simp)]
    rw [hk, hS] at qm
    obtain rfl : p = ⟨#[]⟩ := by
      apply ByteArray.ext
      exact Array.eq_empty_of_size_eq_zero hz
    go_enter Tryd.func8, Tryd.ntmps8
    go_wp2_with (first | (go_at_call 9; refine q.mono ?_; rintro e w1 ⟨rfl, hb⟩) | (go_at_call 10; refine (qm.out _ hb).mono ?_; rintro e w2 ⟨rfl, hb2⟩))
    all_goals go_ret
    all_goals exact ⟨by first | rfl | simp, (hb.trans (hb2.mono hb.size)).alloc (Nat.le_trans hb.size hb2.size) _⟩
  · have hpos : 0 < p.size := by omega
    have hs := slash_at p hpos
    have hne : p.toList.isEmpty = false := by
      cases he : p.toList.isEmpty with
      | false => rfl
      | true =>
        exfalso
        have : p = ⟨#[]⟩ := emp_true he
        rw [this] at hz
        exact hz rfl
    have hi : (0 : Int) ≤ (p.size : Int) - 1 := by omega
    have hj : (p.size : Int) - 1 < (p.size : Int) := by omega
    have ht : ((p.size : Int) - 1).toNat = p.size - 1 := by omega
    by_cases c : ((p[p.size - 1]'(by omega)).toNat : Int) = 47
    · rw [decide_eq_true c] at hs
      by_cases hf : f = 0
      · subst hf
        have hk : kOld 0 p = 4 := by unfold kOld; rw [if_pos ⟨rfl, hs⟩]
        have hS : sOld 0 p = 0 := by unfold sOld; rw [if_pos ⟨rfl, hs⟩]
        rw [hk, hS] at qm
        clear hs hz
        go_enter Tryd.func8, Tryd.ntmps8
        go_wp2_with (first | (go_at_call 9; refine q.mono ?_; rintro e w1 ⟨rfl, hb⟩) | (go_at_call 10; refine (qm.out _ hb).mono ?_; rintro e w2 ⟨rfl, hb2⟩))
        all_goals go_ret
        all_goals exact ⟨by first | rfl | simp | simp [c], (hb.trans (hb2.mono hb.size)).alloc (Nat.le_trans hb.size hb2.size) _⟩
      · have hk : kOld f p = 1 := by unfold kOld; rw [if_neg (fun h => hf h.1)]
        have hS : sOld f p = 3 := by unfold sOld; rw [if_neg (fun h => hf h.1)]
        rw [hk, hS] at qm
        clear hs hz
        go_enter Tryd.func8, Tryd.ntmps8
        go_wp2_with (first | (go_at_call 9; refine q.mono ?_; rintro e w1 ⟨rfl, hb⟩) | (go_at_call 10; refine (qm.out _ hb).mono ?_; rintro e w2 ⟨rfl, hb2⟩))
        all_goals go_ret
        all_goals exact ⟨by first | rfl | simp | simp [c], (hb.trans (hb2.mono hb.size)).alloc (Nat.le_trans hb.size hb2.size) _⟩
    · rw [decide_eq_false c] at hs
      have hk : kOld f p = 1 := by unfold kOld; rw [if_neg (by rw [hs]; simp)]
      have hS : sOld f p = 3 := by unfold sOld; rw [if_neg (by rw [hs]; simp)]
      rw [hk, hS] at qm
      clear hs hz
      go_enter Tryd.func8, Tryd.ntmps8
      go_wp2_with (first | (go_at_call 9; refine q.mono ?_; rintro e w1 ⟨rfl, hb⟩) | (go_at_call 10; refine (qm.out _ hb).mono ?_; rintro e w2 ⟨rfl, hb2⟩))
      all_goals go_ret
      all_goals exact ⟨by first | rfl | (simp [c]; done) | (simp; exact c), (hb.trans (hb2.mono hb.size)).alloc (Nat.le_trans hb.size hb2.size) _⟩

set_option maxHeartbeats 1000000 in
theorem walk (f : Int) (p : ByteArray) (w : World) (hv : Vs w) (b0 : -9223372036854775808 ≤ f) (b1 : f ≤ 9223372036854775807) (hm : p.size ≤ 9223372036854775807) :
    Calls Tryd.prog 8 #[.int .i64 f, .string p] w fun e w' => e = .returned (.bool true) ∧ Below w.heap.size w w' := by
  by_cases c0 : f < 0
  · have q := makes_w w hv
    go_enter Tryd.func8, Tryd.ntmps8
    go_wp2_with (go_at_call 9; refine q.mono ?_; rintro e w1 ⟨rfl, hb⟩)
    go_ret
    exact ⟨rfl, hb⟩
  by_cases c1 : 2 < f
  · have q := makes_w w hv
    go_enter Tryd.func8, Tryd.ntmps8
    go_wp2_with (go_at_call 9; refine q.mono ?_; rintro e w1 ⟨rfl, hb⟩)
    go_ret
    exact ⟨rfl, hb⟩
  by_cases c2 : 500 < p.size
  · have q := makes_w w hv
    have c2' : (500 : Int) < (p.size : Int) := by omega
    go_enter Tryd.func8, Tryd.ntmps8
    go_wp2_with (go_at_call 9; refine q.mono ?_; rintro e w1 ⟨rfl, hb⟩)
    go_ret
    exact ⟨rfl, hb⟩
  exact walk_in f p w hv (by omega) (by omega) (by omega)

theorem lit_i64 {z : Int} (h : (Lit.int .i64 z).wf = true) : -9223372036854775808 ≤ z ∧ z ≤ 9223372036854775807 := by
  have h' : IntKind.i64.min ≤ z ∧ z ≤ IntKind.i64.max := by simpa [Lit.wf] using h
  have e1 : IntKind.i64.min = -9223372036854775808 := by decide
  have e2 : IntKind.i64.max = 9223372036854775807 := by decide
  omega

set_option maxRecDepth 100000 in
theorem lifted (os : Os) (started : os.Started) (H : Type) (enc : TypeId × Value → H) :
    ReturnsInHanded {} Tryd.checked os 8 .any (fun w args => (Rows.entryOldSpec.pre enc Tryd.prog Tryd.f8 [] false w args ∧ laidMetH Tryd.prog five w) ∧ sizedMet enc Tryd.prog Tryd.f8 (OpenSpec.ofChange Rows.entryOldSpec) false w args)
      (Rows.entryOldSpec.post enc Tryd.prog Tryd.f8 false true false false) := by
  refine returnsInHanded_of_change_and (C := Tryd.checked) (X := fun w _ => laidMetH Tryd.prog five w) (fun _ _ _ hh h => h.of_heap hh) own started (by kernel_rfl) Tryd.func8
    (ChangeSpec.witness_at (enc := enc) (C := Tryd.checked) (os := os) (X := fun w _ => laidMetH Tryd.prog five w) false
      (start os)
      #[.int .i64 0, .string ⟨#[]⟩] 8 rfl (by kernel_rfl) (by kernel_rfl) (by kernel_rfl) (by kernel_rfl) (by kernel_rfl) (laidMet_of_run' 8 (by kernel_rfl) (by kernel_rfl))) ?_
  intro W base args ds gs before hval0 hW _ hsz hL _
  have hval : ∀ (j : Nat) t v, Tryd.f8.params[j]? = some t → args[j]? = some v → Value.okWide Tryd.prog W .any base t v := hval0
  have hW' := hW
  obtain ⟨p, q, hA0, hV0, rfl, hfz, hnd⟩ := hW
  have hA : DataW.TrodAll enc Tryd.prog W 0 (fun _ => true) true Tryd.f8.params.toList args.toList ds p := hA0
  have hV : DataW.TrodVars enc Tryd.prog W (fun _ => true) [] gs q := hV0
  rw [Tryd.params8] at hA hval
  obtain ⟨v0, vs0, d0, ds0, p0, q0, hargs, rfl, rfl, h0, r0⟩ := trodAll_cons hA
  obtain ⟨v1, vs1, d1, ds1, p1, q1, rfl, rfl, rfl, h1, r1⟩ := trodAll_cons r0
  obtain ⟨rfl, rfl, rfl⟩ := trodAll_nil r1
  obtain rfl : args = #[v0, v1] := by cases args; simp_all
  obtain ⟨rfl, rfl⟩ : gs = [] ∧ q = [] := by
    cases gs with
    | nil => exact ⟨rfl, hV⟩
    | cons g r => exact absurd hV (by intro h; cases h)
  obtain ⟨a0, rfl, rfl, rfl, w0⟩ := open_int Tryd.underlying3 (hval 0 3 v0 rfl rfl) h0
  obtain ⟨s1, rfl, rfl, rfl, m1⟩ := Go.ChangeMaps.open_string Tryd.underlying9 (hval 1 9 v1 rfl rfl) h1
  clear hA0 hval0
  refine (walk a0 s1 W (met hL) (lit_i64 w0).1 (lit_i64 w0).2 m1).mono fun e W' ⟨he, st⟩ => ?_
  subst he
  exact ⟨_, rfl, _, _, _, [], _, [], hW', trodAll_mk1 (shut_bool Tryd.underlying4 _), (trodAll_cons_mk (shut_int Tryd.underlying3 w0) (trodAll_cons_mk (Go.ChangeMaps.shut_string Tryd.underlying9 m1) trodAll_mk0)), rfl, st.frame _, fun h => by cases h⟩

theorem over : Rows.EntryOldSaid :=
  OpenClaim.holds_of_wide 8 Tryd.f8 rfl rfl rfl rfl rfl rfl rfl ⟨rfl, rfl, rfl, rfl, rfl⟩ rfl rfl rfl rfl rfl (by kernel_rfl) Tryd.func8 (by kernel_rfl)
    (of_decide_eq_true (by kernel_rfl)) (by unfold Func.isWrapper; rw [if_neg (of_decide_eq_false (by kernel_rfl))]; exact ⟨rfl, rfl⟩)
    (fun os started H enc _ => lifted os started H enc)

theorem carded : Rows.EntryOldCardSaid :=
  Claim7.holds_tied_plain_at .later [] _ _ _ _
    over (fun _ h => by cases h) (by kernel_rfl) (fun _ h => by cases h) entryOld_row_tie rfl ⟨rfl, rfl⟩ (by kernel_rfl) rfl
    (fun f fn hf hfn => by
      obtain rfl : f = 8 := Option.some.inj ((show Tryd.prog.funcNamed Tryd.f8.name = some 8 by kernel_rfl).symm.trans hf) |>.symm
      obtain rfl : fn = Tryd.f8 := (Option.some.inj (Tryd.func8.symm.trans hfn)).symm
      refine ⟨by kernel_rfl, fun j t ht => ?_⟩
      have hall : ∀ t ∈ Tryd.f8.params, Tryd.prog.wantsStandIn t = false := by
        rw [Tryd.params8]
        intro t ht
        simp at ht
        rcases ht with rfl | rfl <;> kernel_rfl
      exact hall t (Array.mem_of_getElem? ht))
    (by kernel_rfl)

end Go.Proofs.YtjnmmkohmfhnlaaDoor.entryOld
namespace Go.Proofs.YtjnmmkohmfhnlaaDoor
theorem entryOld_holds : Rows.EntryOldCardSaid := entryOld.carded
#print axioms entryOld_holds
end Go.Proofs.YtjnmmkohmfhnlaaDoor
