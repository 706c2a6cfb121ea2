/-
  The card of the law PaxGets holds: it returns true for every list of records and every key, the variables of the library that it lists being as the program text lays them.
-/
import Derived.Test.YtebnekkdkifgjaaDoorLaid
import Derived.Test.YtebnekkdkifgjaaDoorCards
import Derived.Test.YtebnekkdkifgjaaDoorTie
import Derived.Test.YtebnekkdkifgjaaDoorFits
import Derived.ChangeMaps5
import Derived.ProofKit
import Derived.OpenShut
namespace Go.Proofs.YtebnekkdkifgjaaDoor.paxGets
open Go.ChangeShapes Go.WideShapes Go.RowKit
set_option linter.unusedVariables false
set_option linter.unusedSimpArgs false

/-- the law's own look: the last one of the first records -/
theorem last_step (K V : Nat → ByteArray) (key : ByteArray) (i : Nat) : lastOf K V key (i + 1) = if K i = key then (V i, true) else lastOf K V key i := rfl

theorem walk_many (ad : Option Addr) (n cap : Nat) (key : ByteArray) (h : 70 < n) (hm : n ≤ 9223372036854775807) (w : World) (ht : Vs w) :
    Calls Tryd.prog 3 #[.slice ad n cap, .string key] w fun e w' => e = .returned (.bool true) ∧ Below w.heap.size w w' := by
  have q0 := records_w w ht
  have qf := fun W => fits_much ad n cap W h hm
  go_enter Tryd.func3, Tryd.ntmps3
  go_wp2_with (first | (go_at_call 9; refine q0.mono ?_; rintro e w1 ⟨rfl, b1⟩) | (go_at_call 10; refine (qf _).mono ?_; rintro e w2 ⟨rfl, rfl⟩))
  go_ret
  exact ⟨rfl, b1⟩

set_option maxHeartbeats 2000000 in
theorem walk_none (ad : Option Addr) (cap : Nat) (key : ByteArray) (w : World) (ht : Vs w) :
    Calls Tryd.prog 3 #[.slice ad 0 cap, .string key] w fun e w' => e = .returned (.bool true) ∧ Below w.heap.size w w' := by
  have q0 := records_w w ht
  have qf := fun W => fits_none ad cap W
  have qg := fun W => get_none ad cap key W
  go_enter Tryd.func3, Tryd.ntmps3
  go_wp2_with (first | (go_at_call 9; refine q0.mono ?_; rintro e w1 ⟨rfl, b1⟩) | (go_at_call 10; refine (qf _).mono ?_; rintro e w2 ⟨rfl, rfl⟩) | (go_at_call 11; refine (qg _).mono ?_; rintro e w3 ⟨rfl, rfl⟩))
  refine wp_loop_rounds 1 ?_
  rw [rounds_succ]
  go_wp2
  go_ret
  exact ⟨rfl, b1⟩

theorem walk_unfit (b off n cap : Nat) (K V : Nat → ByteArray) (key : ByteArray) (hn : n ≤ 70) (w : World) (hR : RecsAt w b off K V n) (ht : Vs w) (hF : ¬ okTo K V n) :
    Calls Tryd.prog 3 #[.slice (some ⟨b, off, none⟩) n cap, .string key] w fun e w' => e = .returned (.bool true) ∧ Below w.heap.size w w' := by
  have q0 := records_w w ht
  have HF : Hid (∀ W, Below w.heap.size w W → Calls Tryd.prog 10 #[.slice (some ⟨b, off, none⟩) n cap] W fun e w' => e = .returned (.bool false) ∧ Below W.heap.size W w') := fun W hb => by
    have := fits_any b off n cap K V W (hR.below hb) hn
    rwa [decide_eq_false hF] at this
  clear hR hF
  go_enter Tryd.func3, Tryd.ntmps3
  go_wp2_with (first | (go_at_call 9; refine q0.mono ?_; rintro e w1 ⟨rfl, b1⟩) | (go_at_call 10; refine (HF.out _ b1).mono ?_; rintro e w2 ⟨rfl, b2⟩))
  go_ret
  exact ⟨rfl, b1.trans (b2.mono b1.size)⟩

set_option maxRecDepth 20000 in
set_option maxHeartbeats 4000000 in
theorem walk_in (b off n cap : Nat) (K V : Nat → ByteArray) (key : ByteArray) (hn : n ≤ 70) (w : World) (hR : RecsAt w b off K V n) (ht : Vs w) (hF : okTo K V n) :
    Calls Tryd.prog 3 #[.slice (some ⟨b, off, none⟩) n cap, .string key] w fun e w' => e = .returned (.bool true) ∧ Below w.heap.size w w' := by
  have q0 := records_w w ht
  have HF : Hid (∀ W, Below w.heap.size w W → Calls Tryd.prog 10 #[.slice (some ⟨b, off, none⟩) n cap] W fun e w' => e = .returned (.bool true) ∧ Below W.heap.size W w') := fun W hb => by
    have := fits_any b off n cap K V W (hR.below hb) hn
    rwa [decide_eq_true hF] at this
  have HG : Hid (∀ W, Below w.heap.size w W → Calls Tryd.prog 11 #[.slice (some ⟨b, off, none⟩) n cap, .string key] W fun e w' => e = .returned (.tuple #[.string (lastOf K V key n).1, .bool (lastOf K V key n).2]) ∧ W = w') := fun W hb => get_w b off n cap K V key W (hR.below hb) (by omega)
  have HR : Hid (∀ W, Below w.heap.size w W → RecsAt W b off K V n) := fun W h => hR.below h
  clear hR hF
  go_enter Tryd.func3, Tryd.ntmps3
  go_wp2_with (first | (go_at_call 9; refine q0.mono ?_; rintro e w1 ⟨rfl, b1⟩) | (go_at_call 10; refine (HF.out _ b1).mono ?_; rintro e w2 ⟨rfl, b2⟩; have bb2 := b1.trans (b2.mono b1.size)) | (go_at_call 11; refine (HG.out _ bb2).mono ?_; rintro e w3 ⟨rfl, rfl⟩))
  go_loopw [7, 8, 24] (fun tv tb t wr => ∃ i : Nat, i ≤ n ∧ t = .int .i64 i ∧ tv = .string (lastOf K V key i).1 ∧ tb = .bool (lastOf K V key i).2 ∧ Below w.heap.size w wr) (fun _ _ t _ => n - (intOf t).toNat)
  case atStart => exact ⟨0, Nat.zero_le _, rfl, rfl, rfl, bb2⟩
  case round =>
    obtain ⟨i, hi, rfl, rfl, rfl, bb⟩ := hrel
    by_cases hlt : i < n
    · obtain ⟨hc0, hc1⟩ := HR.out _ bb i hlt
      have HL : Hid (lastOf K V key (i + 1) = if K i = key then (V i, true) else lastOf K V key i) := last_step K V key i
      by_cases c : K i = key
      · rw [c] at hc0
        go_wp2
        go_roundw
        case rel => exact ⟨i + 1, by omega, by simp, by rw [HL.out, if_pos c], by rw [HL.out, if_pos c], by first | exact bb.alloc bb.size _ | exact ((bb.alloc bb.size _).setCell bb.size _).setCell bb.size _⟩
        case measure => simp [intOf]; omega
      · have c' := ne_list c
        go_wp2
        go_roundw
        case rel => exact ⟨i + 1, by omega, by simp, by rw [HL.out, if_neg c], by rw [HL.out, if_neg c], by first | exact bb.alloc bb.size _ | exact ((bb.alloc bb.size _).setCell bb.size _).setCell bb.size _⟩
        case measure => simp [intOf]; omega
    · obtain rfl : i = n := by omega
      generalize (lastOf K V key i).1 = x at *
      generalize (lastOf K V key i).2 = y at *
      go_wp2
      go_ret
      exact ⟨by first | rfl | simp, bb⟩

theorem walk (ad : Option Addr) (n cap : Nat) (K V : Nat → ByteArray) (key : ByteArray) (w : World) (ht : Vs w) (h : Told w ad n cap K V) :
    Calls Tryd.prog 3 #[.slice ad n cap, .string key] w fun e w' => e = .returned (.bool true) ∧ Below w.heap.size w w' := by
  obtain ⟨h1, h2, h3⟩ := h
  by_cases c : 70 < n
  · exact walk_many ad n cap key c (by omega) w ht
  rcases h3 with rfl | ⟨b, off, rfl, hR⟩
  · exact walk_none ad cap key w ht
  · by_cases hF : okTo K V n
    · exact walk_in b off n cap K V key (by omega) w hR ht hF
    · exact walk_unfit b off n cap K V key (by omega) w hR ht hF

theorem lit_i64 {z : Int} (h : (Lit.int .i64 z).wf = true) : -9223372036854775808 ≤ z ∧ z ≤ 9223372036854775807 := by
  have h' : IntKind.i64.min ≤ z ∧ z ≤ IntKind.i64.max := by simpa [Lit.wf] using h
  have e1 : IntKind.i64.min = -9223372036854775808 := by decide
  have e2 : IntKind.i64.max = 9223372036854775807 := by decide
  omega

set_option maxRecDepth 100000 in
theorem lifted (os : Os) (started : os.Started) (H : Type) (enc : TypeId × Value → H) :
    ReturnsInHanded {} Tryd.checked os 3 .any (fun w args => (Rows.paxGetsSpec.pre enc Tryd.prog Tryd.f3 [] false w args ∧ laidMetH Tryd.prog five w) ∧ sizedMet enc Tryd.prog Tryd.f3 (OpenSpec.ofChange Rows.paxGetsSpec) false w args)
      (Rows.paxGetsSpec.post enc Tryd.prog Tryd.f3 false true false false) := by
  refine returnsInHanded_of_change_and (C := Tryd.checked) (X := fun w _ => laidMetH Tryd.prog five w) (fun _ _ _ hh h => h.of_heap hh) own started (by kernel_rfl) Tryd.func3
    (ChangeSpec.witness_at (enc := enc) (C := Tryd.checked) (os := os) (X := fun w _ => laidMetH Tryd.prog five w) false
      (start os)
      #[.slice none 0 0, .string ⟨#[]⟩] 8 rfl (by kernel_rfl) (by kernel_rfl) (by kernel_rfl) (by kernel_rfl) (by kernel_rfl) (laidMet_of_run' 8 (by kernel_rfl) (by kernel_rfl))) ?_
  intro W base args ds gs before hval0 hW _ hsz hL _
  have hval : ∀ (j : Nat) t v, Tryd.f3.params[j]? = some t → args[j]? = some v → Value.okWide Tryd.prog W .any base t v := hval0
  have hW' := hW
  obtain ⟨p, q, hA0, hV0, rfl, hfz, hnd⟩ := hW
  have hA : DataW.TrodAll enc Tryd.prog W 0 (fun _ => true) true Tryd.f3.params.toList args.toList ds p := hA0
  have hV : DataW.TrodVars enc Tryd.prog W (fun _ => true) [] gs q := hV0
  rw [Tryd.params3] at hA hval
  obtain ⟨v0, vs0, d0, ds0, p0, q0, hargs, rfl, rfl, h0, r0⟩ := trodAll_cons hA
  obtain ⟨v1, vs1, d1, ds1, p1, q1, rfl, rfl, rfl, h1, r1⟩ := trodAll_cons r0
  obtain ⟨rfl, rfl, rfl⟩ := trodAll_nil r1
  obtain rfl : args = #[v0, v1] := by cases args; simp_all
  obtain ⟨rfl, rfl⟩ : gs = [] ∧ q = [] := by
    cases gs with
    | nil => exact ⟨rfl, hV⟩
    | cons g r => exact absurd hV (by intro h; cases h)
  obtain ⟨ad0, n0, cap0, rfl⟩ := okWide_slice Tryd.underlying22 (hval 0 22 v0 rfl rfl)
  have k0 := h0
  have lt0 : ∀ x ∈ p0, x.block < W.heap.size := by obtain ⟨m, hm⟩ := k0; exact DataW.trod_lt m _ _ _ hm
  obtain ⟨K0, V0, z0⟩ : ∃ K V, Told W ad0 n0 cap0 K V := told_of h0
  obtain ⟨s1, rfl, rfl, rfl, m1⟩ := Go.ChangeMaps.open_string Tryd.underlying9 (hval 1 9 v1 rfl rfl) h1
  clear hA0 hval0
  refine (walk ad0 n0 cap0 K0 V0 s1 W (met hL) z0).mono fun e W' ⟨he, st⟩ => ?_
  subst he
  exact ⟨_, rfl, _, _, _, [], _, [], hW', trodAll_mk1 (shut_bool Tryd.underlying4 _), (trodAll_cons_mk (Below.trod laidOut (by kernel_rfl) (of_decide_eq_true (by kernel_rfl)) k0 st lt0) (trodAll_cons_mk (Go.ChangeMaps.shut_string Tryd.underlying9 m1) trodAll_mk0)), rfl, st.frame _, fun h => by cases h⟩

theorem over : Rows.PaxGetsSaid :=
  OpenClaim.holds_of_wide 3 Tryd.f3 rfl rfl rfl rfl rfl rfl rfl ⟨rfl, rfl, rfl, rfl, rfl⟩ rfl rfl rfl rfl rfl (by kernel_rfl) Tryd.func3 (by kernel_rfl)
    (of_decide_eq_true (by kernel_rfl)) (by unfold Func.isWrapper; rw [if_neg (of_decide_eq_false (by kernel_rfl))]; exact ⟨rfl, rfl⟩)
    (fun os started H enc _ => lifted os started H enc)

theorem carded : Rows.PaxGetsCardSaid :=
  Claim7.holds_tied_plain_at .later [] _ _ _ _
    over (fun _ h => by cases h) (by kernel_rfl) (fun _ h => by cases h) paxGets_row_tie rfl ⟨rfl, rfl⟩ (by kernel_rfl) rfl
    (fun f fn hf hfn => by
      obtain rfl : f = 3 := Option.some.inj ((show Tryd.prog.funcNamed Tryd.f3.name = some 3 by kernel_rfl).symm.trans hf) |>.symm
      obtain rfl : fn = Tryd.f3 := (Option.some.inj (Tryd.func3.symm.trans hfn)).symm
      refine ⟨by kernel_rfl, fun j t ht => ?_⟩
      have hall : ∀ t ∈ Tryd.f3.params, Tryd.prog.wantsStandIn t = false := by
        rw [Tryd.params3]
        intro t ht
        simp at ht
        rcases ht with rfl | rfl <;> kernel_rfl
      exact hall t (Array.mem_of_getElem? ht))
    (by kernel_rfl)

end Go.Proofs.YtebnekkdkifgjaaDoor.paxGets
namespace Go.Proofs.YtebnekkdkifgjaaDoor
theorem paxGets_holds : Rows.PaxGetsCardSaid := paxGets.carded
#print axioms paxGets_holds
end Go.Proofs.YtebnekkdkifgjaaDoor
