/-
  The card of the law WholeHeader holds: it returns true for every header, place and turn, the variables that it lists being as the text lays them.
-/
import Derived.Test.YtmholjjicklnhacDoorLaid
import Derived.Test.YtmholjjicklnhacDoorCards
import Derived.Test.YtmholjjicklnhacDoorTie
import Derived.Test.YtmholjjicklnhacDoorWh
import Derived.OpenShut
import Derived.ShutString
import Derived.ChangeOld
import Derived.ProofKit
namespace Go.Proofs.YtmholjjicklnhacDoor.wholeHeader
open Go.ChangeShapes Go.WideShapes Go.RowKit
set_option linter.unusedVariables false
set_option linter.unusedSimpArgs false


theorem s8_strOf (zs : List Int) (h : AllB zs) : s8 (strOf zs) = zs := by
  unfold s8
  rw [strOf_data, List.map_map]
  conv => rhs; rw [← List.map_id zs]
  apply List.map_congr_left
  intro z hz
  have := h z hz
  simp
  omega

theorem new_of (n l p u r : ByteArray) (ty a b c d m : Int) (hf : textsB n l p u r = true) (hn : ∀ k, k < 5 → numFit (numsF a b c d m) k = true) (fit : rng a ∧ rng b ∧ rng c ∧ rng d ∧ rng m) (e : Ending)
    (h : DecNo (sealL (encL n l p u r ty (numsF a b c d m))) e ∨ DecYes (sealL (encL n l p u r ty (numsF a b c d m))) e) :
    e = .returned (.tuple #[.agg #[.int .i64 1, .string n, .string l, .string p, .string u, .string r, .int .u8 ty, .int .i64 a, .int .i64 b, .int .i64 c, .int .i64 d, .int .i64 m], .int .i64 0]) := by
  have H := hdOf_enc n l p u r ty (numsF a b c d m) hf hn
  have hm := enc_magic n l p u r ty (numsF a b c d m) hf
  generalize sealL (encL n l p u r ty (numsF a b c d m)) = z at *
  have hr : ∀ j, j < 5 → numsF a b c d m j ≤ 9223372036854775807 := by
    intro j hj
    unfold rng at fit
    rcases (show j = 0 ∨ j = 1 ∨ j = 2 ∨ j = 3 ∨ j = 4 by omega) with rfl | rfl | rfl | rfl | rfl <;> simp only [numsF] <;> omega
  have hform : formL z = 1 := by
    unfold formL
    rw [hm]
    rfl
  rcases h with ⟨k, hk, _, hne, _⟩ | ⟨_, rfl⟩
  · exact absurd (H.eN hr k hk).1 hne
  · have h0 := (H.eN hr 0 (by omega)).2
    have h1 := (H.eN hr 1 (by omega)).2
    have h2 := (H.eN hr 2 (by omega)).2
    have h3 := (H.eN hr 3 (by omega)).2
    have h4 := (H.eN hr 4 (by omega)).2
    unfold hdF isU notOld
    rw [hform, H.name, H.link, H.prefx, H.user, H.group, H.type, h0, h1, h2, h3, h4]
    simp [numsF]

theorem turned (n l p u r : ByteArray) (ty : Int) (ns : Nat → Int) (hf : textsB n l p u r = true) (hty : 0 ≤ ty ∧ ty ≤ 255) (j : Nat) (hj : j < 512) (hs : ¬ (148 ≤ j ∧ j < 156)) (v : Int) (hv : 0 ≤ v ∧ v ≤ 255) (h100 : j < 100) (hz : (sealL (encL n l p u r ty ns))[j]?.getD 0 ≠ 0) (hne : v ≠ (sealL (encL n l p u r ty ns))[j]?.getD 0) :
    ((tx (sealL ((sealL (encL n l p u r ty ns)).set j v)) 0 100).toList == n.toList) = false := by
  have s := texts_sizes hf
  have hl := encL_length n l p u r ty ns hf
  have hlz := sealL_length _ hl
  have hAz : AllB (sealL (encL n l p u r ty ns)) := sealL_allB _ (encL_allB n l p u r ty ns hty)
  have hg : gD (sealL (encL n l p u r ty ns)) j = gD (encL n l p u r ty ns) j := gD_seal _ hl j (by omega)
  have hz' : gD (sealL (encL n l p u r ty ns)) j ≠ 0 := hz
  have hne' : v ≠ gD (sealL (encL n l p u r ty ns)) j := hne
  rw [hg, gD_encL n l p u r ty ns hf, if_neg (by omega), if_neg (by omega), if_neg (by omega), if_neg (by omega), if_neg (by omega), if_neg (by omega)] at hz' hne'
  by_cases hjn : j < n.size
  · rw [if_pos (by omega)] at hne'
    rw [beq_eq_false_iff_ne]
    intro e
    have e2 : tx (sealL ((sealL (encL n l p u r ty ns)).set j v)) 0 100 = n := by
      rw [ByteArray.toList_eq, ByteArray.toList_eq] at e
      apply ByteArray.ext
      exact Array.ext' e
    have hl2 : ((sealL (encL n l p u r ty ns)).set j v).length = 512 := by rw [List.length_set, hlz]
    have hA2 : AllB (sealL ((sealL (encL n l p u r ty ns)).set j v)) := sealL_allB _ (allB_set _ hAz _ _ hv)
    have hg2 : gD (sealL ((sealL (encL n l p u r ty ns)).set j v)) j = v := by
      rw [gD_seal _ hl2 j (by omega), gD_set _ _ _ _ (by omega), if_pos rfl]
    have hl3 := sealL_length _ hl2
    generalize sealL ((sealL (encL n l p u r ty ns)).set j v) = z' at *
    have e3 : s8 n = txt (fld z' 0 100) := by
      rw [← e2]
      show s8 (strOf (txt (fld z' 0 100))) = _
      exact s8_strOf _ (fun z hz => fld_allB z' 0 100 hA2 z ((List.takeWhile_prefix _).subset hz))
    obtain ⟨t, ht⟩ : ∃ t, txt (fld z' 0 100) ++ t = fld z' 0 100 := List.takeWhile_prefix _
    rw [← e3] at ht
    apply hne'
    have e4 : gD (fld z' 0 100) j = gD z' j := by
      unfold gD fld
      rw [List.getElem?_take_of_lt (by omega), List.getElem?_drop, Nat.zero_add]
    rw [← hg2, ← e4, ← ht]
    unfold gD
    rw [List.getElem?_append_left (by rw [s8_length]; exact hjn), Nat.sub_zero]
  · rw [if_neg (by omega), gD_none _ _ (by omega)] at hz'
    exact absurd rfl hz'

theorem walk (f : Int) (n l p u r : ByteArray) (ty a b c d m k turn : Int) (w : World) (L : Laid w) (fit : (0 ≤ ty ∧ ty ≤ 255) ∧ rng a ∧ rng b ∧ rng c ∧ rng d ∧ rng m) (ht : (Lit.int .u8 turn).wf = true) :
    Calls Tryd.prog 4 #[.agg (hcells f n l p u r ty a b c d m), .int .i64 k, .int .u8 turn] w fun e w' => e = .returned (.bool true) ∧ Below w.heap.size w w' := by
  have ht' := bounds_u8 ht
  cases hf : textsB n l p u r with
  | false => exact wh_no f n l p u r ty a b c d m k turn w L 2 (by omega) (fun W hb => enc_long f n l p u r ty a b c d m W hf)
  | true =>
    have q := fun W (hb : Below w.heap.size w W) => enc_yes f n l p u r ty a b c d m W hf (L.grow hb) fit.1 fit.2.1 fit.2.2.1 fit.2.2.2.1 fit.2.2.2.2.1 fit.2.2.2.2.2
    by_cases hn : ∀ j, j < 5 → numFit (numsF a b c d m) j = true
    · have s := texts_sizes hf
      have H := hdOf_enc n l p u r ty (numsF a b c d m) hf hn
      have hl := encL_length n l p u r ty (numsF a b c d m) hf
      have hb := encL_allB n l p u r ty (numsF a b c d m) fit.1
      have hnum : parseO (fld (sealL (encL n l p u r ty (numsF a b c d m))) 124 136) = some d := by
        have := H.num 3 (by omega)
        rw [show numB 3 = 124 from rfl, show numE 3 = 136 from rfl] at this
        rw [this]
        exact parse_numL d 3 (by omega) (by have := fit.2.2.2.2.1; unfold rng at this; omega) (hn 3 (by omega))
      refine wh_yes f n l p u r ty a b c d m k turn w L (by omega) (sealL (encL n l p u r ty (numsF a b c d m))) (sealL_length _ hl) (sealL_allB _ hb) (sealL_right _ hl hb) hnum (enc_magic n l p u r ty _ hf) H.type ht' (fun j hj hs v hv e he => ?_) (fun W hb => (q W hb).mono fun e w' h => ?_) (new_of n l p u r ty a b c d m hf hn fit.2)
      · rcases he with ⟨k, _, _, hne, rfl⟩ | ⟨_, rfl⟩
        · exact .inl ⟨_, hne, rfl⟩
        · exact .inr ⟨_, _, _, _, _, _, _, _, _, _, _, _, rfl, fun h100 hz _ hne => turned n l p u r ty _ hf fit.1 j hj hs v hv h100 hz hne⟩
      · rcases h with ⟨_, ⟨j, hj, h2⟩, _⟩ | ⟨g, h1, _, h3⟩
        · rw [hn j hj] at h2; cases h2
        · exact ⟨g, h1, h3⟩
    · refine wh_no f n l p u r ty a b c d m k turn w L 20 (by omega) (fun W hb => (q W hb).mono fun e w' h => ?_)
      rcases h with ⟨h1, _, h3⟩ | ⟨g, _, h2, _⟩
      · exact ⟨h1, h3⟩
      · exact absurd h2 hn


theorem lit_i64 {z : Int} (h : (Lit.int .i64 z).wf = true) : -9223372036854775808 ≤ z ∧ z ≤ 9223372036854775807 := by
  have h' : IntKind.i64.min ≤ z ∧ z ≤ IntKind.i64.max := by simpa [Lit.wf] using h
  have e1 : IntKind.i64.min = -9223372036854775808 := by decide
  have e2 : IntKind.i64.max = 9223372036854775807 := by decide
  omega

set_option maxRecDepth 100000 in
theorem lifted (os : Os) (started : os.Started) (H : Type) (enc : TypeId × Value → H) :
    ReturnsInHanded {} Tryd.checked os 4 .any (fun w args => (Rows.wholeHeaderSpec.pre enc Tryd.prog Tryd.f4 [] false w args ∧ laidMetH Tryd.prog seven w) ∧ sizedMet enc Tryd.prog Tryd.f4 (OpenSpec.ofChange Rows.wholeHeaderSpec) false w args)
      (Rows.wholeHeaderSpec.post enc Tryd.prog Tryd.f4 false true false false) := by
  refine returnsInHanded_of_change_and (C := Tryd.checked) (X := fun w _ => laidMetH Tryd.prog seven w) (fun _ _ _ hh h => h.of_heap hh) own started (by kernel_rfl) Tryd.func4
    (ChangeSpec.witness_at (enc := enc) (C := Tryd.checked) (os := os) (X := fun w _ => laidMetH Tryd.prog seven w) false
      (start os)
      #[.agg (hcells 0 ⟨#[]⟩ ⟨#[]⟩ ⟨#[]⟩ ⟨#[]⟩ ⟨#[]⟩ 0 0 0 0 0 0), .int .i64 0, .int .u8 0] 8 rfl (by kernel_rfl) (by kernel_rfl) (by kernel_rfl) (by kernel_rfl) (by kernel_rfl) (laidMet_of_run' 8 (by kernel_rfl) (by kernel_rfl))) ?_
  intro W base args ds gs before hval0 hW _ hsz hL _
  have hval : ∀ (j : Nat) t v, Tryd.f4.params[j]? = some t → args[j]? = some v → Value.okWide Tryd.prog W .any base t v := hval0
  have hW' := hW
  obtain ⟨p, q, hA0, hV0, rfl, hfz, hnd⟩ := hW
  have hA : DataW.TrodAll enc Tryd.prog W 0 (fun _ => true) true Tryd.f4.params.toList args.toList ds p := hA0
  have hV : DataW.TrodVars enc Tryd.prog W (fun _ => true) [] gs q := hV0
  rw [Tryd.params4] at hA hval
  obtain ⟨v0, vs0, d0, ds0, p0, q0, hargs, rfl, rfl, h0, r0⟩ := trodAll_cons hA
  obtain ⟨v1, vs1, d1, ds1, p1, q1, rfl, rfl, rfl, h1, r1⟩ := trodAll_cons r0
  obtain ⟨v2, vs2, d2, ds2, p2, q2, rfl, rfl, rfl, h2, r2⟩ := trodAll_cons r1
  obtain ⟨rfl, rfl, rfl⟩ := trodAll_nil r2
  obtain rfl : args = #[v0, v1, v2] := by cases args; simp_all
  obtain ⟨rfl, rfl⟩ : gs = [] ∧ q = [] := by
    cases gs with
    | nil => exact ⟨rfl, hV⟩
    | cons g r => exact absurd hV (by intro h; cases h)
  have k0 := h0
  have lt0 : ∀ x ∈ p0, x.block < W.heap.size := by obtain ⟨m, hm⟩ := k0; exact DataW.trod_lt m _ _ _ hm
  obtain ⟨f_, n_, l_, p_, u_, r_, ty_, a_, b_, c_, d_, m_, rfl, fit0⟩ := open_hd (hval 0 25 v0 rfl rfl) h0
  obtain ⟨a1, rfl, rfl, rfl, w1⟩ := open_int Tryd.underlying3 (hval 1 3 v1 rfl rfl) h1
  obtain ⟨a2, rfl, rfl, rfl, w2⟩ := open_int Tryd.underlying5 (hval 2 5 v2 rfl rfl) h2
  clear hA0 hval0
  refine (walk f_ n_ l_ p_ u_ r_ ty_ a_ b_ c_ d_ m_ a1 a2 W (met hL) fit0 w2).mono fun e W' ⟨he, st⟩ => ?_
  subst he
  exact ⟨_, rfl, _, _, _, [], _, [], hW', trodAll_mk1 (shut_bool Tryd.underlying4 _), (trodAll_cons_mk (Below.trod laidOut (by kernel_rfl) (of_decide_eq_true (by kernel_rfl)) k0 st lt0) (trodAll_cons_mk (shut_int Tryd.underlying3 w1) (trodAll_cons_mk (shut_int Tryd.underlying5 w2) trodAll_mk0))), rfl, st.frame _, fun h => by cases h⟩

theorem over : Rows.WholeHeaderSaid :=
  OpenClaim.holds_of_wide 4 Tryd.f4 rfl rfl rfl rfl rfl rfl rfl ⟨rfl, rfl, rfl, rfl, rfl⟩ rfl rfl rfl rfl rfl (by kernel_rfl) Tryd.func4 (by kernel_rfl)
    (of_decide_eq_true (by kernel_rfl)) (by unfold Func.isWrapper; rw [if_neg (of_decide_eq_false (by kernel_rfl))]; exact ⟨rfl, rfl⟩)
    (fun os started H enc _ => lifted os started H enc)

theorem carded : Rows.WholeHeaderCardSaid :=
  Claim7.holds_tied_plain_at .later [] _ _ _ _
    over (fun _ h => by cases h) (by kernel_rfl) (fun _ h => by cases h) wholeHeader_row_tie rfl ⟨rfl, rfl⟩ (by kernel_rfl) rfl
    (fun f fn hf hfn => by
      obtain rfl : f = 4 := Option.some.inj ((show Tryd.prog.funcNamed Tryd.f4.name = some 4 by kernel_rfl).symm.trans hf) |>.symm
      obtain rfl : fn = Tryd.f4 := (Option.some.inj (Tryd.func4.symm.trans hfn)).symm
      refine ⟨by kernel_rfl, fun j t ht => ?_⟩
      have hall : ∀ t ∈ Tryd.f4.params, Tryd.prog.wantsStandIn t = false := by
        rw [Tryd.params4]
        intro t ht
        simp at ht
        rcases ht with rfl | rfl | rfl <;> kernel_rfl
      exact hall t (Array.mem_of_getElem? ht))
    (by kernel_rfl)

end Go.Proofs.YtmholjjicklnhacDoor.wholeHeader
namespace Go.Proofs.YtmholjjicklnhacDoor
theorem wholeHeader_holds : Rows.WholeHeaderCardSaid := wholeHeader.carded
#print axioms wholeHeader_holds
end Go.Proofs.YtmholjjicklnhacDoor
