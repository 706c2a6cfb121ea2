/-
  The card of the law HeadShort holds: it returns true for every block, the variables that it lists being as the text lays them.
-/
import Derived.Test.YtmholjjicklnhacDoorLaid
import Derived.Test.YtmholjjicklnhacDoorCards
import Derived.Test.YtmholjjicklnhacDoorTie
import Derived.OpenShut
import Derived.ShutString
import Derived.ChangeOld
import Derived.ProofKit
namespace Go.Proofs.YtmholjjicklnhacDoor.headShort
open Go.ChangeShapes Go.WideShapes Go.RowKit
set_option linter.unusedVariables false
set_option linter.unusedSimpArgs false

theorem zero_no : rightB (List.replicate 512 0) = false := by decide +kernel
theorem blank_rep (zs : List Int) (hl : zs.length = 512) (h : blankB zs = true) : zs = List.replicate 512 0 := by
  rw [← hl]
  refine List.eq_replicate_iff.2 ⟨rfl, fun z hz => ?_⟩
  have := List.all_eq_true.1 h z hz
  simpa using this

theorem eN_two (zs : List Int) (k : Nat) : eN zs k = 0 ∨ eN zs k = 20 := by
  unfold eN resE
  split
  · exact .inl rfl
  · exact .inr rfl

theorem dec_any (ad : Addr) (cap : Nat) (zs : List Int) (w : World) (hb : Hid (AllB zs)) (hl : Hid (zs.length = 512)) (hc : 512 ≤ cap) (hc2 : cap ≤ 9223372036854775807) (hs : Src w (some ad) zs) (L : Laid w) :
    ∃ code : Int, ¬ code = 1 ∧ (blankB zs = true → code = 50) ∧ (∀ W, Below w.heap.size w W → Calls Tryd.prog 6 #[.slice (some ad) 512 cap] W fun e w' => (∃ (f : Int) (n l p u r : ByteArray) (ty a b c d m : Int), e = .returned (.tuple #[.agg #[.int .i64 f, .string n, .string l, .string p, .string u, .string r, .int .u8 ty, .int .i64 a, .int .i64 b, .int .i64 c, .int .i64 d, .int .i64 m], .int .i64 code])) ∧ Below W.heap.size W w') := by
  cases hr : rightB zs with
  | false =>
    refine ⟨50, by omega, fun _ => rfl, fun W hw => (dec_sum ad cap zs W hb hl hc hc2 (hs.grow hw) hr).mono fun e w' ⟨h1, h2⟩ => ⟨⟨0, ⟨#[]⟩, ⟨#[]⟩, ⟨#[]⟩, ⟨#[]⟩, ⟨#[]⟩, 0, 0, 0, 0, 0, 0, h1⟩, h2⟩⟩
  | true =>
    have hnb : ¬ blankB zs = true := fun h => by
      rw [blank_rep zs hl.out h, zero_no] at hr
      cases hr
    by_cases hall : ∀ j, j < 5 → eN zs j = 0
    · refine ⟨0, by omega, fun h => absurd h hnb, fun W hw => (dec_yes ad cap zs W hb hl hc hc2 (hs.grow hw) hr (L.grow hw)).mono fun e w' ⟨h1, h2⟩ => ⟨?_, h2⟩⟩
      rcases h1 with ⟨k, hk, _, hne, _⟩ | ⟨_, h1⟩
      · exact absurd (hall k hk) hne
      · exact ⟨_, _, _, _, _, _, _, _, _, _, _, _, h1⟩
    · refine ⟨20, by omega, fun h => absurd h hnb, fun W hw => (dec_yes ad cap zs W hb hl hc hc2 (hs.grow hw) hr (L.grow hw)).mono fun e w' ⟨h1, h2⟩ => ⟨?_, h2⟩⟩
      rcases h1 with ⟨k, hk, _, hne, h1⟩ | ⟨h0, _⟩
      · rcases eN_two zs k with h | h
        · exact absurd h hne
        · rw [h] at h1
          exact ⟨0, ⟨#[]⟩, ⟨#[]⟩, ⟨#[]⟩, ⟨#[]⟩, ⟨#[]⟩, 0, 0, 0, 0, 0, 0, h1⟩
      · exact absurd h0 hall

set_option maxHeartbeats 1000000 in
theorem walk_512 (ad : Addr) (cap : Nat) (zs : List Int) (w : World) (hb : Hid (AllB zs)) (hl : Hid (zs.length = 512)) (hc : 512 ≤ cap) (hc2 : cap ≤ 9223372036854775807) (hs : Src w (some ad) zs) (L : Laid w) :
    Calls Tryd.prog 3 #[.slice (some ad) 512 cap] w fun e w' => e = .returned (.bool true) ∧ Below w.heap.size w w' := by
  obtain ⟨code, h1, h50, hD⟩ := dec_any ad cap zs w hb hl hc hc2 hs L
  have HD : Hid (∀ W, Below w.heap.size w W → Calls Tryd.prog 6 #[.slice (some ad) 512 cap] W fun e w' => (∃ (f : Int) (n l p u r : ByteArray) (ty a b c d m : Int), e = .returned (.tuple #[.agg #[.int .i64 f, .string n, .string l, .string p, .string u, .string r, .int .u8 ty, .int .i64 a, .int .i64 b, .int .i64 c, .int .i64 d, .int .i64 m], .int .i64 code])) ∧ Below W.heap.size W w') := hD
  have HBl : Hid (∀ W, Below w.heap.size w W → Calls Tryd.prog 7 #[.slice (some ad) 512 cap] W fun e w' => e = .returned (.bool (blankB zs)) ∧ W = w') := fun W hw => blank_yes ad cap zs W hl (hs.grow hw)
  have q := reads_ok w L
  clear hD hs
  cases hbl : blankB zs with
  | true =>
    obtain rfl := h50 hbl
    rw [hbl] at HBl
    clear h50
    go_enter Tryd.func3, Tryd.ntmps3
    go_wp2_with (first | (go_at_call 5; refine q.mono ?_; rintro e w1 ⟨rfl, hb1⟩) | (go_at_call 6; refine (HD.out _ hb1).mono ?_; rintro e w2 ⟨⟨f, n, l, p, u, r, ty, a, b, c, d, m, rfl⟩, hb2⟩; have HB2 := hb1.trans (hb2.mono hb1.size); have HB3 := HB2.alloc HB2.size (.cells #[.int .i64 f, .string n, .string l, .string p, .string u, .string r, .int .u8 ty, .int .i64 a, .int .i64 b, .int .i64 c, .int .i64 d, .int .i64 m] 25)) | (go_at_call 7; refine (HBl.out _ HB3).mono ?_; rintro e w3 ⟨rfl, hw3⟩; subst hw3))
    all_goals go_ret
    all_goals exact ⟨by first | rfl | simp, HB3⟩
  | false =>
    rw [hbl] at HBl
    have hc1 : (code != 1) = true := by simpa using h1
    clear h50
    go_enter Tryd.func3, Tryd.ntmps3
    go_wp2_with (first | (go_at_call 5; refine q.mono ?_; rintro e w1 ⟨rfl, hb1⟩) | (go_at_call 6; refine (HD.out _ hb1).mono ?_; rintro e w2 ⟨⟨f, n, l, p, u, r, ty, a, b, c, d, m, rfl⟩, hb2⟩; have HB2 := hb1.trans (hb2.mono hb1.size); have HB3 := HB2.alloc HB2.size (.cells #[.int .i64 f, .string n, .string l, .string p, .string u, .string r, .int .u8 ty, .int .i64 a, .int .i64 b, .int .i64 c, .int .i64 d, .int .i64 m] 25)) | (go_at_call 7; refine (HBl.out _ HB3).mono ?_; rintro e w3 ⟨rfl, hw3⟩; subst hw3))
    all_goals go_ret
    all_goals exact ⟨by first | rfl | simp | simp [h1], HB3⟩

set_option maxHeartbeats 1000000 in
theorem walk_no (a : Option Addr) (l cap : Nat) (w : World) (h : l ≠ 512) (hl : l ≤ 9223372036854775807) (L : Laid w) :
    Calls Tryd.prog 3 #[.slice a l cap] w fun e w' => e = .returned (.bool true) ∧ Below w.heap.size w w' := by
  have q := reads_ok w L
  by_cases c : 2000 < l
  · have c' : (2000 : Int) < (l : Int) := by omega
    go_enter Tryd.func3, Tryd.ntmps3
    go_wp2_with (go_at_call 5; refine q.mono ?_; rintro e w1 ⟨rfl, hb1⟩)
    go_ret
    exact ⟨rfl, hb1⟩
  have c' : ¬ (2000 : Int) < (l : Int) := by omega
  have h2 : ¬ (l : Int) = 512 := by omega
  have q2 := fun W => dec_short a l cap W h hl
  have q3 := fun W => blank_no a l cap W h hl
  unfold hzero at q2
  go_enter Tryd.func3, Tryd.ntmps3
  go_wp2_with (first | (go_at_call 5; refine q.mono ?_; rintro e w1 ⟨rfl, hb1⟩) | (go_at_call 6; refine (q2 _).mono ?_; rintro e w2 ⟨rfl, hb2⟩) | (go_at_call 7; refine (q3 _).mono ?_; rintro e w3 ⟨rfl, hw3⟩; subst hw3))
  all_goals go_ret
  all_goals exact ⟨by first | rfl | simp, by have hB := hb1.trans (hb2.mono hb1.size); exact hB.alloc hB.size _⟩

theorem walk (a : Option Addr) (l cap : Nat) (zs : List Int) (w : World) (L : Laid w) (hr : IsRow .u8 w a l cap zs) :
    Calls Tryd.prog 3 #[.slice a l cap] w fun e w' => e = .returned (.bool true) ∧ Below w.heap.size w w' := by
  obtain ⟨hs, hl, hcap, hmax, hall, hnone⟩ := row_src hr
  by_cases c : l = 512
  · subst c
    cases a with
    | none => have := hnone rfl; omega
    | some ad => exact walk_512 ad cap _ w hall hl hcap (by omega) hs L
  · exact walk_no a l cap w c (by omega) L

theorem lit_i64 {z : Int} (h : (Lit.int .i64 z).wf = true) : -9223372036854775808 ≤ z ∧ z ≤ 9223372036854775807 := by
  have h' : IntKind.i64.min ≤ z ∧ z ≤ IntKind.i64.max := by simpa [Lit.wf] using h
  have e1 : IntKind.i64.min = -9223372036854775808 := by decide
  have e2 : IntKind.i64.max = 9223372036854775807 := by decide
  omega

set_option maxRecDepth 100000 in
theorem lifted (os : Os) (started : os.Started) (H : Type) (enc : TypeId × Value → H) :
    ReturnsInHanded {} Tryd.checked os 3 .any (fun w args => (Rows.headShortSpec.pre enc Tryd.prog Tryd.f3 [] false w args ∧ laidMetH Tryd.prog seven w) ∧ sizedMet enc Tryd.prog Tryd.f3 (OpenSpec.ofChange Rows.headShortSpec) false w args)
      (Rows.headShortSpec.post enc Tryd.prog Tryd.f3 false true false false) := by
  refine returnsInHanded_of_change_and (C := Tryd.checked) (X := fun w _ => laidMetH Tryd.prog seven w) (fun _ _ _ hh h => h.of_heap hh) own started (by kernel_rfl) Tryd.func3
    (ChangeSpec.witness_at (enc := enc) (C := Tryd.checked) (os := os) (X := fun w _ => laidMetH Tryd.prog seven w) false
      (start os)
      #[.slice none 0 0] 8 rfl (by kernel_rfl) (by kernel_rfl) (by kernel_rfl) (by kernel_rfl) (by kernel_rfl) (laidMet_of_run' 8 (by kernel_rfl) (by kernel_rfl))) ?_
  intro W base args ds gs before hval0 hW _ hsz hL _
  have hval : ∀ (j : Nat) t v, Tryd.f3.params[j]? = some t → args[j]? = some v → Value.okWide Tryd.prog W .any base t v := hval0
  have hW' := hW
  obtain ⟨p, q, hA0, hV0, rfl, hfz, hnd⟩ := hW
  have hA : DataW.TrodAll enc Tryd.prog W 0 (fun _ => true) true Tryd.f3.params.toList args.toList ds p := hA0
  have hV : DataW.TrodVars enc Tryd.prog W (fun _ => true) [] gs q := hV0
  rw [Tryd.params3] at hA hval
  obtain ⟨v0, vs0, d0, ds0, p0, q0, hargs, rfl, rfl, h0, r0⟩ := trodAll_cons hA
  obtain ⟨rfl, rfl, rfl⟩ := trodAll_nil r0
  obtain rfl : args = #[v0] := by cases args; simp_all
  obtain ⟨rfl, rfl⟩ : gs = [] ∧ q = [] := by
    cases gs with
    | nil => exact ⟨rfl, hV⟩
    | cons g r => exact absurd hV (by intro h; cases h)
  obtain ⟨a0, len0, cap0, rfl⟩ := okWide_slice Tryd.underlying22 (hval 0 22 v0 rfl rfl)
  have k0 := h0
  have lt0 : ∀ x ∈ p0, x.block < W.heap.size := by obtain ⟨m, hm⟩ := k0; exact DataW.trod_lt m _ _ _ hm
  obtain ⟨z0, w0⟩ : ∃ zs, IsRow .u8 W a0 len0 cap0 zs := by
    obtain ⟨fuel, hf⟩ := h0
    rcases open_ints Tryd.underlying22 Tryd.underlying5 (by kernel_rfl) hf with ⟨hcs, _⟩ | ⟨x, l, c, zs, hcs, _, hl, hm, hz, _, hcell, hwz⟩
    · simp [Value.cells] at hcs
      obtain ⟨rfl, rfl, rfl⟩ := hcs
      exact ⟨[], .inl ⟨rfl, rfl, rfl, rfl⟩⟩
    · simp [Value.cells] at hcs
      obtain ⟨rfl, rfl, rfl⟩ := hcs
      exact ⟨zs, .inr ⟨_, rfl, hl, hm, by simpa using hz, hcell, hwz⟩⟩
  clear hA0 hval0
  refine (walk a0 len0 cap0 z0 W (met hL) w0).mono fun e W' ⟨he, st⟩ => ?_
  subst he
  exact ⟨_, rfl, _, _, _, [], _, [], hW', trodAll_mk1 (shut_bool Tryd.underlying4 _), (trodAll_cons_mk (Below.trod laidOut (by kernel_rfl) (of_decide_eq_true (by kernel_rfl)) k0 st lt0) trodAll_mk0), rfl, st.frame _, fun h => by cases h⟩

theorem over : Rows.HeadShortSaid :=
  OpenClaim.holds_of_wide 3 Tryd.f3 rfl rfl rfl rfl rfl rfl rfl ⟨rfl, rfl, rfl, rfl, rfl⟩ rfl rfl rfl rfl rfl (by kernel_rfl) Tryd.func3 (by kernel_rfl)
    (of_decide_eq_true (by kernel_rfl)) (by unfold Func.isWrapper; rw [if_neg (of_decide_eq_false (by kernel_rfl))]; exact ⟨rfl, rfl⟩)
    (fun os started H enc _ => lifted os started H enc)

theorem carded : Rows.HeadShortCardSaid :=
  Claim7.holds_tied_plain_at .later [] _ _ _ _
    over (fun _ h => by cases h) (by kernel_rfl) (fun _ h => by cases h) headShort_row_tie rfl ⟨rfl, rfl⟩ (by kernel_rfl) rfl
    (fun f fn hf hfn => by
      obtain rfl : f = 3 := Option.some.inj ((show Tryd.prog.funcNamed Tryd.f3.name = some 3 by kernel_rfl).symm.trans hf) |>.symm
      obtain rfl : fn = Tryd.f3 := (Option.some.inj (Tryd.func3.symm.trans hfn)).symm
      refine ⟨by kernel_rfl, fun j t ht => ?_⟩
      have hall : ∀ t ∈ Tryd.f3.params, Tryd.prog.wantsStandIn t = false := by
        rw [Tryd.params3]
        intro t ht
        simp at ht
        subst ht; kernel_rfl
      exact hall t (Array.mem_of_getElem? ht))
    (by kernel_rfl)

end Go.Proofs.YtmholjjicklnhacDoor.headShort
namespace Go.Proofs.YtmholjjicklnhacDoor
theorem headShort_holds : Rows.HeadShortCardSaid := headShort.carded
#print axioms headShort_holds
end Go.Proofs.YtmholjjicklnhacDoor
