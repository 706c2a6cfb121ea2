/-
  The card of the law TargetDown holds: it returns true for every input, the variables of the library that it lists being as the program text lays them.
-/
import Derived.Test.YtmeaiplinkodiabDoorLaid
import Derived.Test.YtmeaiplinkodiabDoorCards
import Derived.Test.YtmeaiplinkodiabDoorTie
namespace Go.Proofs.YtmeaiplinkodiabDoor.targetDown
open Go.ChangeShapes Go.WideShapes Go.RowKit
set_option linter.unusedVariables false
set_option linter.unusedSimpArgs false

theorem snd_good (ps : List (List UInt8)) (hne : ps ≠ []) (h : ∀ p ∈ ps, Good p) (hl : (jn ps).length ≤ 4000) : snd0 (jn ps) = 0 ∧ spl (jn ps) = ps := by
  cases ps with
  | nil => exact absurd rfl hne
  | cons p r => exact ⟨snd_jn p r (h p (by simp)).1 (fun x hx => (h x hx).snd) hl, spl_jn _ (by simp) fun x hx => (h x hx).snd.1⟩

theorem rsv_down (x y : List (List UInt8)) (hx : ∀ p ∈ x, Good p) (hy : ∀ p ∈ y, Good p) (hne : y ≠ []) (hl : (jn y).length ≤ 4000) : rsv (jn x) (jn y) = (jn (x ++ y), 0) := by
  obtain ⟨h1, h2⟩ := snd_good y hne hy hl
  unfold rsv
  rw [h1, h2, prt_jn x hx, stp_down y x hy]
  simp

theorem emp_bs : (⟨#[]⟩ : ByteArray) = bs (jn []) := rfl

set_option maxHeartbeats 2000000 in
theorem walk_in (l m : List UInt8) (hl : l.length ≤ 9223372036854775807) (hl2 : m.length ≤ 9223372036854775807) (w : World) (hm : Ml w) (h1 : okP l = true) (h2 : okP m = true) (hne : cln m ≠ []) :
    Calls Tryd.prog 8 #[.string (bs l), .string (bs m)] w fun e w' => e = .returned (.bool true) ∧ Below w.heap.size w w' := by
  have q0 := points_w w hm
  obtain ⟨g1, j1⟩ := ok_good l h1
  obtain ⟨g2, j2⟩ := ok_good m h2
  have KC1 : Hid (∀ W, Below w.heap.size w W → Calls Tryd.prog 12 #[.string (bs l)] W fun e w' => e = .returned (.tuple #[.string (bs (jn (cln l))), .bool true]) ∧ Below W.heap.size W w') := fun W hb => by
    have := cleanp_w l hl W (hm.below hb); rwa [h1] at this
  have KC2 : Hid (∀ W, Below w.heap.size w W → Calls Tryd.prog 12 #[.string (bs m)] W fun e w' => e = .returned (.tuple #[.string (bs (jn (cln m))), .bool true]) ∧ Below W.heap.size W w') := fun W hb => by
    have := cleanp_w m hl2 W (hm.below hb); rwa [h2] at this
  have KR1 : Hid (∀ W, Below w.heap.size w W → Calls Tryd.prog 13 #[.string ⟨#[]⟩, .string (bs (jn (cln m)))] W fun e w' => e = .returned (.tuple #[.string (bs (jn (cln m))), .int .i64 0]) ∧ Below W.heap.size W w') := fun W hb => by
    have := resolve_w (jn []) (jn (cln m)) (by simp [jn_nil]) (by omega) W (hm.below hb)
    rwa [rsv_down [] (cln m) (fun p hp => by simp at hp) g2 hne (by omega), List.nil_append, ← emp_bs] at this
  have KR2 : Hid (∀ W, Below w.heap.size w W → Calls Tryd.prog 13 #[.string (bs (jn (cln l))), .string (bs (jn (cln m)))] W fun e w' => e = .returned (.tuple #[.string (bs (jn (cln l ++ cln m))), .int .i64 0]) ∧ Below W.heap.size W w') := fun W hb => by
    have := resolve_w (jn (cln l)) (jn (cln m)) (by omega) (by omega) W (hm.below hb)
    rwa [rsv_down _ _ g1 g2 hne (by omega)] at this
  have hT : jn (cln m) ≠ [] := by
    cases hh : cln m with
    | nil => exact absurd hh hne
    | cons p r => rw [hh] at g2; exact jn_ne p r (g2 p (by simp)).1
  have hE : (jn (cln m)).isEmpty = false := by simpa using hT
  have tT := bs_toList (jn (cln m))
  have tD := bs_toList (jn (cln l))
  have tU := bs_toList (jn (cln l ++ cln m))
  have y1 : (bs (jn (cln l))).size ≤ 1000 := by rw [bs_size]; exact j1
  have y2 : (bs (jn (cln m))).size ≤ 1000 := by rw [bs_size]; exact j2
  by_cases hd : cln l = []
  · have eU : jn (cln l ++ cln m) = jn (cln m) := by rw [hd, List.nil_append]
    have hE2 : (jn (cln l)).isEmpty = true := by rw [hd]; rfl
    rw [eU] at KR2 tU
    clear g1 g2 hm h1 h2 hT hne hd eU
    generalize jn (cln m) = T at *
    generalize jn (cln l) = D at *
    go_enter Tryd.func8, Tryd.ntmps8
    go_wp2_with (first
      | (go_at_call 13; refine (KR2.out _ b03).mono ?_; rintro e w4 ⟨rfl, b4⟩; have b04 := b03.trans (b4.mono b03.size))
      | (go_at_call 13; refine (KR1.out _ b02).mono ?_; rintro e w3 ⟨rfl, b3⟩; have b03 := b02.trans (b3.mono b02.size))
      | (go_at_call 12; refine (KC2.out _ b01).mono ?_; rintro e w2 ⟨rfl, b2⟩; have b02 := b01.trans (b2.mono b01.size))
      | (go_at_call 12; refine (KC1.out _ b00).mono ?_; rintro e w1 ⟨rfl, b1⟩; have b01 := b00.trans (b1.mono b00.size))
      | (go_at_call 11; refine q0.mono ?_; rintro e w0 ⟨rfl, b00⟩))
    go_ret
    exact ⟨rfl, b04⟩
  · have hD : jn (cln l) ≠ [] := by
      cases hh : cln l with
      | nil => exact absurd hh hd
      | cons p r => rw [hh] at g1; exact jn_ne p r (g1 p (by simp)).1
    have hE2 : (jn (cln l)).isEmpty = false := by simpa using hD
    have k1 : bs (jn (cln l)) ++ (⟨#[47]⟩ : ByteArray) = bs (jn (cln l) ++ [47]) := bs_app _ [47]
    have k2 : bs (jn (cln l) ++ [47]) ++ bs (jn (cln m)) = bs (jn (cln l ++ cln m)) := by rw [bs_app, jn_append _ _ hd hne]; congr 1; simp
    have y3 : (bs (jn (cln l) ++ [47])).size ≤ 1001 := by rw [bs_size]; simp; exact j1
    clear g1 g2 hm h1 h2 hT hne hd hD
    generalize jn (cln l ++ cln m) = U at *
    generalize jn (cln m) = T at *
    generalize jn (cln l) = D at *
    generalize D ++ [47] = D2 at *
    go_enter Tryd.func8, Tryd.ntmps8
    go_wp2_with (first
      | (go_at_call 13; refine (KR2.out _ b03).mono ?_; rintro e w4 ⟨rfl, b4⟩; have b04 := b03.trans (b4.mono b03.size))
      | (go_at_call 13; refine (KR1.out _ b02).mono ?_; rintro e w3 ⟨rfl, b3⟩; have b03 := b02.trans (b3.mono b02.size))
      | (go_at_call 12; refine (KC2.out _ b01).mono ?_; rintro e w2 ⟨rfl, b2⟩; have b02 := b01.trans (b2.mono b01.size))
      | (go_at_call 12; refine (KC1.out _ b00).mono ?_; rintro e w1 ⟨rfl, b1⟩; have b01 := b00.trans (b1.mono b00.size))
      | (go_at_call 11; refine q0.mono ?_; rintro e w0 ⟨rfl, b00⟩))
    go_ret
    exact ⟨rfl, b04⟩

set_option maxHeartbeats 1000000 in
theorem walk_out (l m : List UInt8) (hl : l.length ≤ 9223372036854775807) (hl2 : m.length ≤ 9223372036854775807) (w : World) (hm : Ml w) (h : okP l = false ∨ okP m = false ∨ cln m = []) :
    Calls Tryd.prog 8 #[.string (bs l), .string (bs m)] w fun e w' => e = .returned (.bool true) ∧ Below w.heap.size w w' := by
  have q0 := points_w w hm
  have KC1 : Hid (∀ W, Below w.heap.size w W → Calls Tryd.prog 12 #[.string (bs l)] W fun e w' => e = .returned (.tuple #[.string (bs (jn (cln l))), .bool (okP l)]) ∧ Below W.heap.size W w') := fun W hb => cleanp_w l hl W (hm.below hb)
  have KC2 : Hid (∀ W, Below w.heap.size w W → Calls Tryd.prog 12 #[.string (bs m)] W fun e w' => e = .returned (.tuple #[.string (bs (jn (cln m))), .bool (okP m)]) ∧ Below W.heap.size W w') := fun W hb => cleanp_w m hl2 W (hm.below hb)
  have hE : cln m = [] → (jn (cln m)).isEmpty = true := fun e => by rw [e]; rfl
  have tT := bs_toList (jn (cln m))
  clear hm
  generalize hc : cln m = cm at *
  generalize jn (cln l) = D at *
  generalize jn cm = T at *
  generalize okP l = p at *
  generalize hq : okP m = q at *
  clear hq hc
  cases p with
  | false =>
    clear h hE
    go_enter Tryd.func8, Tryd.ntmps8
    go_wp2_with (first
      | (go_at_call 12; refine (KC2.out _ b01).mono ?_; rintro e w2 ⟨rfl, b2⟩; have b02 := b01.trans (b2.mono b01.size))
      | (go_at_call 12; refine (KC1.out _ b00).mono ?_; rintro e w1 ⟨rfl, b1⟩; have b01 := b00.trans (b1.mono b00.size))
      | (go_at_call 11; refine q0.mono ?_; rintro e w0 ⟨rfl, b00⟩))
    go_ret
    exact ⟨rfl, b02⟩
  | true =>
    cases q with
    | false =>
      clear h hE
      go_enter Tryd.func8, Tryd.ntmps8
      go_wp2_with (first
        | (go_at_call 12; refine (KC2.out _ b01).mono ?_; rintro e w2 ⟨rfl, b2⟩; have b02 := b01.trans (b2.mono b01.size))
        | (go_at_call 12; refine (KC1.out _ b00).mono ?_; rintro e w1 ⟨rfl, b1⟩; have b01 := b00.trans (b1.mono b00.size))
        | (go_at_call 11; refine q0.mono ?_; rintro e w0 ⟨rfl, b00⟩))
      go_ret
      exact ⟨rfl, b02⟩
    | true =>
      have hE2 := hE (by simpa using h)
      clear h hE
      go_enter Tryd.func8, Tryd.ntmps8
      go_wp2_with (first
        | (go_at_call 12; refine (KC2.out _ b01).mono ?_; rintro e w2 ⟨rfl, b2⟩; have b02 := b01.trans (b2.mono b01.size))
        | (go_at_call 12; refine (KC1.out _ b00).mono ?_; rintro e w1 ⟨rfl, b1⟩; have b01 := b00.trans (b1.mono b00.size))
        | (go_at_call 11; refine q0.mono ?_; rintro e w0 ⟨rfl, b00⟩))
      go_ret
      exact ⟨rfl, b02⟩

theorem walk (s t : ByteArray) (w : World) (hm : Ml w) (hs : s.size ≤ maxLen) (hs2 : t.size ≤ maxLen) :
    Calls Tryd.prog 8 #[.string s, .string t] w fun e w' => e = .returned (.bool true) ∧ Below w.heap.size w w' := by
  rw [bs_of s] at hs ⊢
  rw [bs_of t] at hs2 ⊢
  rw [bs_size] at hs hs2
  unfold maxLen at hs hs2
  generalize s.data.toList = l at *
  generalize t.data.toList = m at *
  cases h1 : okP l with
  | false => exact walk_out l m hs hs2 w hm (.inl h1)
  | true =>
    cases h2 : okP m with
    | false => exact walk_out l m hs hs2 w hm (.inr (.inl h2))
    | true =>
      by_cases h3 : cln m = []
      · exact walk_out l m hs hs2 w hm (.inr (.inr h3))
      · exact walk_in l m hs hs2 w hm h1 h2 h3

set_option maxRecDepth 100000 in
theorem lifted (os : Os) (started : os.Started) (H : Type) (enc : TypeId × Value → H) :
    ReturnsInHanded {} Tryd.checked os 8 .any (fun w args => (Rows.targetDownSpec.pre enc Tryd.prog Tryd.f8 [] false w args ∧ laidMetH Tryd.prog two w) ∧ sizedMet enc Tryd.prog Tryd.f8 (OpenSpec.ofChange Rows.targetDownSpec) false w args)
      (Rows.targetDownSpec.post enc Tryd.prog Tryd.f8 false true false false) := by
  refine handed_shaped (C := Tryd.checked) (X := fun w _ => laidMetH Tryd.prog two w) (fun _ _ _ hh h => h.of_heap hh) own started (by kernel_rfl) Tryd.func8
    (ChangeSpec.witness_at (enc := enc) (C := Tryd.checked) (os := os) (X := fun w _ => laidMetH Tryd.prog two w) false
      (start os)
      #[.string ⟨#[]⟩, .string ⟨#[]⟩] 8 rfl (by kernel_rfl) (by kernel_rfl) (by kernel_rfl) (by kernel_rfl) (by kernel_rfl) (laidMet_of_run' 8 (by kernel_rfl) (by kernel_rfl))) ?_
  intro W base args ds gs before hval0 hW hsz hsh
  have hval : ∀ (j : Nat) t v, Tryd.f8.params[j]? = some t → args[j]? = some v → Value.okWide Tryd.prog W .any base t v := hval0
  have hW' := hW
  obtain ⟨p, q, hA0, hV0, rfl, hfz, hnd⟩ := hW
  have hA : DataW.TrodAll enc Tryd.prog W 0 (fun _ => true) true Tryd.f8.params.toList args.toList ds p := hA0
  have hV : DataW.TrodVars enc Tryd.prog W (fun _ => true) [] gs q := hV0
  rw [Tryd.params8] at hA hval
  obtain ⟨v0, vs0, d0, ds0, p0, q0, hargs, rfl, rfl, h0, r0⟩ := trodAll_cons hA
  obtain ⟨v1, vs1, d1, ds1, p1, q1, rfl, rfl, rfl, h1, r1⟩ := trodAll_cons r0
  obtain ⟨rfl, rfl, rfl⟩ := trodAll_nil r1
  obtain rfl : args = #[v0, v1] := by cases args; simp_all
  obtain ⟨rfl, rfl⟩ : gs = [] ∧ q = [] := by
    cases gs with
    | nil => exact ⟨rfl, hV⟩
    | cons g r => exact absurd hV (by intro h; cases h)
  obtain ⟨s0, rfl, rfl, rfl, m0⟩ := Go.ChangeMaps.open_string Tryd.underlying9 (hval 0 9 v0 rfl rfl) h0
  obtain ⟨s1, rfl, rfl, rfl, m1⟩ := Go.ChangeMaps.open_string Tryd.underlying9 (hval 1 9 v1 rfl rfl) h1
  clear hA0 hval0
  refine (walk s0 s1 W (shaped hsh) m0 m1).mono fun e W' ⟨he, st⟩ => ?_
  subst he
  exact ⟨_, rfl, _, _, _, [], _, [], hW', trodAll_mk1 (shut_bool Tryd.underlying4 _), (trodAll_cons_mk (Go.ChangeMaps.shut_string Tryd.underlying9 m0) (trodAll_cons_mk (Go.ChangeMaps.shut_string Tryd.underlying9 m1) trodAll_mk0)), rfl, st.frame _, fun h => by cases h⟩

theorem over : Rows.TargetDownSaid :=
  OpenClaim.holds_of_wide 8 Tryd.f8 rfl rfl rfl rfl rfl rfl rfl ⟨rfl, rfl, rfl, rfl, rfl⟩ rfl rfl rfl rfl rfl (by kernel_rfl) Tryd.func8 (by kernel_rfl)
    (of_decide_eq_true (by kernel_rfl)) (by unfold Func.isWrapper; rw [if_neg (of_decide_eq_false (by kernel_rfl))]; exact ⟨rfl, rfl⟩)
    (fun os started H enc _ => lifted os started H enc)

theorem carded : Rows.TargetDownCardSaid :=
  Claim7.holds_tied_plain_at .later [] _ _ _ _
    over (fun _ h => by cases h) (by kernel_rfl) (fun _ h => by cases h) targetDown_row_tie rfl ⟨rfl, rfl⟩ (by kernel_rfl) rfl
    (fun f fn hf hfn => by
      obtain rfl : f = 8 := Option.some.inj ((show Tryd.prog.funcNamed Tryd.f8.name = some 8 by kernel_rfl).symm.trans hf) |>.symm
      obtain rfl : fn = Tryd.f8 := (Option.some.inj (Tryd.func8.symm.trans hfn)).symm
      refine ⟨by kernel_rfl, fun j t ht => ?_⟩
      have hall : ∀ t ∈ Tryd.f8.params, Tryd.prog.wantsStandIn t = false := by
        rw [Tryd.params8]
        intro t ht
        simp at ht
        subst ht; kernel_rfl
      exact hall t (Array.mem_of_getElem? ht))
    (by kernel_rfl)

end Go.Proofs.YtmeaiplinkodiabDoor.targetDown
namespace Go.Proofs.YtmeaiplinkodiabDoor
theorem targetDown_holds : Rows.TargetDownCardSaid := targetDown.carded
#print axioms targetDown_holds
end Go.Proofs.YtmeaiplinkodiabDoor
