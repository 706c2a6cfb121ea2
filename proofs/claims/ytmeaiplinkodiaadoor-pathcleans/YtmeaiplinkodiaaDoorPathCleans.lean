/-
  The card of the law PathCleans holds: it returns true for every input, the variables of the library that it lists being as the program text lays them.
-/
import Derived.Test.YtmeaiplinkodiaaDoorLaid
import Derived.Test.YtmeaiplinkodiaaDoorCards
import Derived.Test.YtmeaiplinkodiaaDoorTie
import Derived.Test.YtmeaiplinkodiaaDoorRef3
namespace Go.Proofs.YtmeaiplinkodiaaDoor.pathCleans
open Go.ChangeShapes Go.WideShapes Go.RowKit
set_option linter.unusedVariables false
set_option linter.unusedSimpArgs false

theorem same_self (ps : List (List UInt8)) (hn : ps.length ≤ 100000) (W : World) (ad1 ad2 : Option Addr) (c1 c2 : Nat) (h1 : Sl W ad1 ps) (h2 : Sl W ad2 ps) (hc1 : ps.length ≤ c1) (hc2 : ps.length ≤ c2) :
    Calls Tryd.prog 12 #[.slice ad1 ps.length c1, .slice ad2 ps.length c2] W fun e w' => e = .returned (.bool true) ∧ Below W.heap.size W w' := by
  have := same_w ad1 ad2 c1 c2 ps ps W h1 h2 hc1 hc2 (by omega) (by omega)
  rwa [show smB ps ps = true from decide_eq_true rfl] at this

theorem cln_len (l : List UInt8) (hl : l.length ≤ 5000) : (cln l).length ≤ 5001 := by
  unfold cln
  split
  · have h1 : (parts l).length ≤ (spl l).length := List.length_filter_le _ _
    have h2 := spl_len_le l
    omega
  · simp

set_option maxHeartbeats 4000000 in
theorem walk_no (l : List UInt8) (w : World) (hm : Ml w) (h1 : l.length ≤ 5000) (hz : err l ≠ 0 ∨ cln l = []) :
    Calls Tryd.prog 3 #[.string (bs l)] w fun e w' => e = .returned (.bool true) ∧ Below w.heap.size w w' := by
  have q0 := cleans_w w hm
  have z1 := bs_size l
  have KQ1 : Hid (∀ W, Below w.heap.size w W → Calls Tryd.prog 10 #[.string (bs l)] W fun e w' => ∃ ad c, e = .returned (.tuple #[.slice ad (cln l).length c, .int .i64 (err l)]) ∧ (cln l).length ≤ c ∧ c ≤ 9223372036854775807 ∧ Hid (Sl w' ad (cln l)) ∧ Below W.heap.size W w') := fun W hb => clean_sl l (by omega) W (hm.below hb)
  have KR : Hid (∀ W, Calls Tryd.prog 11 #[.string (bs l)] W fun e w' => ∃ ad c, e = .returned (.tuple #[.slice ad (cln l).length c, .int .i64 (err l)]) ∧ (cln l).length ≤ c ∧ c ≤ 9223372036854775807 ∧ Hid (Sl w' ad (cln l)) ∧ Below W.heap.size W w') := fun W => rclean_w l (by omega) W
  have KS : Hid (∀ W ad1 ad2 c1 c2, Sl W ad1 (cln l) → Sl W ad2 (cln l) → (cln l).length ≤ c1 → (cln l).length ≤ c2 → Calls Tryd.prog 12 #[.slice ad1 (cln l).length c1, .slice ad2 (cln l).length c2] W fun e w' => e = .returned (.bool true) ∧ Below W.heap.size W w') := fun W ad1 ad2 c1 c2 a b c d => same_self (cln l) (by have := cln_len l h1; omega) W ad1 ad2 c1 c2 a b c d
  have qs := fun W => sound_w l (by omega) W
  have qr := fun W => rsound_w l (by omega) W
  have hN : (cln l).length = 0 ∨ err l ≠ 0 := by
    rcases hz with h | h
    · exact .inr h
    · left; rw [h]; rfl
  clear hm hz
  generalize snd0 l = y at *
  generalize cln l = ps at *
  generalize ps.length = N at *
  generalize err l = z at *
  by_cases c0 : z = 0
  · have hN0 : N = 0 := by omega
    subst hN0 c0
    clear hN
    go_enter Tryd.func3, Tryd.ntmps3
    go_wp2_with (first
      | (go_at_call 14; refine (qr _).mono ?_; rintro e w' ⟨rfl, hw⟩; rw [hw])
      | (go_at_call 13; refine (qs _).mono ?_; rintro e w4 ⟨rfl, b4⟩; have b04 := b03.trans (b4.mono b03.size))
      | (go_at_call 12; refine (KS.out _ _ _ _ _ (hs1.out.below b2) hs2.out hc1 hc2).mono ?_; rintro e w3 ⟨rfl, b3⟩; have b03 := b02.trans (b3.mono b02.size))
      | (go_at_call 11; refine (KR.out _).mono ?_; rintro e w2 ⟨ad2, c2, rfl, hc2, hm2, hs2, b2⟩; have b02 := b01.trans (b2.mono b01.size))
      | (go_at_call 10; refine (KQ1.out _ b00).mono ?_; rintro e w1 ⟨ad1, c1, rfl, hc1, hm1, hs1, b1⟩; have b01 := b00.trans (b1.mono b00.size))
      | (go_at_call 9; refine q0.mono ?_; rintro e w0 ⟨rfl, b00⟩))
    go_ret
    exact ⟨rfl, b04⟩
  · clear hN
    go_enter Tryd.func3, Tryd.ntmps3
    go_wp2_with (first
      | (go_at_call 14; refine (qr _).mono ?_; rintro e w' ⟨rfl, hw⟩; rw [hw])
      | (go_at_call 13; refine (qs _).mono ?_; rintro e w4 ⟨rfl, b4⟩; have b04 := b03.trans (b4.mono b03.size))
      | (go_at_call 12; refine (KS.out _ _ _ _ _ (hs1.out.below b2) hs2.out hc1 hc2).mono ?_; rintro e w3 ⟨rfl, b3⟩; have b03 := b02.trans (b3.mono b02.size))
      | (go_at_call 11; refine (KR.out _).mono ?_; rintro e w2 ⟨ad2, c2, rfl, hc2, hm2, hs2, b2⟩; have b02 := b01.trans (b2.mono b01.size))
      | (go_at_call 10; refine (KQ1.out _ b00).mono ?_; rintro e w1 ⟨ad1, c1, rfl, hc1, hm1, hs1, b1⟩; have b01 := b00.trans (b1.mono b00.size))
      | (go_at_call 9; refine q0.mono ?_; rintro e w0 ⟨rfl, b00⟩))
    go_ret
    exact ⟨rfl, b04⟩

set_option maxHeartbeats 4000000 in
theorem walk_yes (l : List UInt8) (w : World) (hm : Ml w) (h1 : l.length ≤ 5000) (h0 : err l = 0) (hne : cln l ≠ []) :
    Calls Tryd.prog 3 #[.string (bs l)] w fun e w' => e = .returned (.bool true) ∧ Below w.heap.size w w' := by
  have q0 := cleans_w w hm
  have z1 := bs_size l
  have hg : ∀ p ∈ cln l, Good p := by unfold cln; rw [if_pos h0]; exact parts_good l h0
  have hl4 : l.length ≤ 4000 := ((snd_zero l).1 ((err_zero l).1 h0).1).2.1
  have hjl : (jn (cln l)).length ≤ 4000 := by unfold cln; rw [if_pos h0]; have := jn_parts_length l; omega
  have hn := cln_len l h1
  have ej : err (jn (cln l)) = 0 := err_jn _ hne hg hjl
  have cj : cln (jn (cln l)) = cln l := by
    have := parts_good_jn (cln l) hne hg
    rw [cln, if_pos ej, this]
  have pj : prt (jn (cln l)) = cln l := prt_jn _ hg
  have KQ1 : Hid (∀ W, Below w.heap.size w W → Calls Tryd.prog 10 #[.string (bs l)] W fun e w' => ∃ ad c, e = .returned (.tuple #[.slice ad (cln l).length c, .int .i64 0]) ∧ (cln l).length ≤ c ∧ c ≤ 9223372036854775807 ∧ Hid (Sl w' ad (cln l)) ∧ Below W.heap.size W w') := fun W hb => by
    have := clean_sl l (by omega) W (hm.below hb)
    rwa [h0] at this
  have KQ2 : Hid (∀ W, Below w.heap.size w W → Calls Tryd.prog 10 #[.string (bs (jn (cln l)))] W fun e w' => ∃ ad c, e = .returned (.tuple #[.slice ad (cln l).length c, .int .i64 0]) ∧ (cln l).length ≤ c ∧ c ≤ 9223372036854775807 ∧ Hid (Sl w' ad (cln l)) ∧ Below W.heap.size W w') := fun W hb => by
    have := clean_sl (jn (cln l)) (by omega) W (hm.below hb)
    rwa [ej, cj] at this
  have KP : Hid (∀ W, Below w.heap.size w W → Calls Tryd.prog 17 #[.string (bs (jn (cln l)))] W fun e w' => ∃ ad, e = .returned (.slice ad (cln l).length (cln l).length) ∧ Hid (Sl w' ad (cln l)) ∧ Below W.heap.size W w') := fun W hb => by
    have := parts_w (jn (cln l)) (by omega) W (hm.below hb)
    rwa [pj] at this
  have KR : Hid (∀ W, Calls Tryd.prog 11 #[.string (bs l)] W fun e w' => ∃ ad c, e = .returned (.tuple #[.slice ad (cln l).length c, .int .i64 0]) ∧ (cln l).length ≤ c ∧ c ≤ 9223372036854775807 ∧ Hid (Sl w' ad (cln l)) ∧ Below W.heap.size W w') := fun W => by
    have := rclean_w l (by omega) W
    rwa [h0] at this
  have KS : Hid (∀ W ad1 ad2 c1 c2, Sl W ad1 (cln l) → Sl W ad2 (cln l) → (cln l).length ≤ c1 → (cln l).length ≤ c2 → Calls Tryd.prog 12 #[.slice ad1 (cln l).length c1, .slice ad2 (cln l).length c2] W fun e w' => e = .returned (.bool true) ∧ Below W.heap.size W w') := fun W ad1 ad2 c1 c2 a b c d => same_self (cln l) (by omega) W ad1 ad2 c1 c2 a b c d
  have KJ : Hid (∀ W ad c, Sl W ad (cln l) → (cln l).length ≤ c → Calls Tryd.prog 15 #[.slice ad (cln l).length c] W fun e w' => e = .returned (.string (bs (jn (cln l)))) ∧ Below W.heap.size W w') := fun W ad c hs hc => join_w ad c (cln l) W hs hc (by omega) (by omega)
  have KRJ : Hid (∀ W ad c, Sl W ad (cln l) → (cln l).length ≤ c → Calls Tryd.prog 16 #[.slice ad (cln l).length c] W fun e w' => e = .returned (.string (bs (jn (cln l)))) ∧ w' = W) := fun W ad c hs hc => rjoin_w ad c (cln l) W hs hc (by omega) (by omega)
  have qs := fun W => sound_w l (by omega) W
  have qr := fun W => rsound_w l (by omega) W
  have hpos : 0 < (cln l).length := List.length_pos_iff.2 hne
  have tJ := bs_toList (jn (cln l))
  clear hm hg hl4 ej cj pj h0 hne
  generalize snd0 l = y at *
  generalize jn (cln l) = J at *
  generalize cln l = ps at *
  generalize ps.length = N at *
  have hN0 : ¬ ((N : Int) = 0) := by omega
  go_enter Tryd.func3, Tryd.ntmps3
  go_wp2_with (first
    | (go_at_call 12; refine (KS.out _ _ _ _ _ hs8.out (((((((hs1.out.below b2).below b3).below b4).below b5).below b6).below b7).below b8) (Nat.le_refl _) hc1).mono ?_; rintro e w9 ⟨rfl, b9⟩; have b09 := b08.trans (b9.mono b08.size))
    | (go_at_call 17; refine (KP.out _ b07).mono ?_; rintro e w8 ⟨ad8, rfl, hs8, b8⟩; have b08 := b07.trans (b8.mono b07.size))
    | (go_at_call 16; refine (KRJ.out _ _ _ ((((hs2.out.below b3).below b4).below b5).below b6 |>.below b7) hc2).mono ?_; rintro e w' ⟨rfl, hw⟩; rw [hw])
    | (go_at_call 12; refine (KS.out _ _ _ _ _ hs6.out (((((hs1.out.below b2).below b3).below b4).below b5).below b6) hc6 hc1).mono ?_; rintro e w7 ⟨rfl, b7⟩; have b07 := b06.trans (b7.mono b06.size))
    | (go_at_call 10; refine (KQ2.out _ b05).mono ?_; rintro e w6 ⟨ad6, c6, rfl, hc6, hm6, hs6, b6⟩; have b06 := b05.trans (b6.mono b05.size))
    | (go_at_call 15; refine (KJ.out _ _ _ (((hs1.out.below b2).below b3).below b4) hc1).mono ?_; rintro e w5 ⟨rfl, b5⟩; have b05 := b04.trans (b5.mono b04.size))
    | (go_at_call 14; refine (qr _).mono ?_; rintro e w' ⟨rfl, hw⟩; rw [hw])
    | (go_at_call 13; refine (qs _).mono ?_; rintro e w4 ⟨rfl, b4⟩; have b04 := b03.trans (b4.mono b03.size))
    | (go_at_call 12; refine (KS.out _ _ _ _ _ (hs1.out.below b2) hs2.out hc1 hc2).mono ?_; rintro e w3 ⟨rfl, b3⟩; have b03 := b02.trans (b3.mono b02.size))
    | (go_at_call 11; refine (KR.out _).mono ?_; rintro e w2 ⟨ad2, c2, rfl, hc2, hm2, hs2, b2⟩; have b02 := b01.trans (b2.mono b01.size))
    | (go_at_call 10; refine (KQ1.out _ b00).mono ?_; rintro e w1 ⟨ad1, c1, rfl, hc1, hm1, hs1, b1⟩; have b01 := b00.trans (b1.mono b00.size))
    | (go_at_call 9; refine q0.mono ?_; rintro e w0 ⟨rfl, b00⟩))
  go_ret
  exact ⟨rfl, b09⟩

theorem walk_long (l : List UInt8) (w : World) (hm : Ml w) (hl : l.length ≤ 9223372036854775807) (h1 : 5000 < l.length) :
    Calls Tryd.prog 3 #[.string (bs l)] w fun e w' => e = .returned (.bool true) ∧ Below w.heap.size w w' := by
  have q0 := cleans_w w hm
  have z1 := bs_size l
  go_enter Tryd.func3, Tryd.ntmps3
  go_wp2_with (go_at_call 9; refine q0.mono ?_; rintro e w0 ⟨rfl, b00⟩)
  go_ret
  exact ⟨rfl, b00⟩

theorem walk (s : ByteArray) (w : World) (hm : Ml w) (hs : s.size ≤ maxLen) :
    Calls Tryd.prog 3 #[.string s] w fun e w' => e = .returned (.bool true) ∧ Below w.heap.size w w' := by
  rw [bs_of s] at hs ⊢
  rw [bs_size] at hs
  unfold maxLen at hs
  generalize s.data.toList = l at *
  by_cases h1 : 5000 < l.length
  · exact walk_long l w hm hs h1
  · by_cases h : err l ≠ 0 ∨ cln l = []
    · exact walk_no l w hm (by omega) h
    · simp only [not_or, Classical.not_not] at h
      exact walk_yes l w hm (by omega) h.1 h.2

set_option maxRecDepth 100000 in
theorem lifted (os : Os) (started : os.Started) (H : Type) (enc : TypeId × Value → H) :
    ReturnsInHanded {} Tryd.checked os 3 .any (fun w args => (Rows.pathCleansSpec.pre enc Tryd.prog Tryd.f3 [] false w args ∧ laidMetH Tryd.prog two w) ∧ sizedMet enc Tryd.prog Tryd.f3 (OpenSpec.ofChange Rows.pathCleansSpec) false w args)
      (Rows.pathCleansSpec.post enc Tryd.prog Tryd.f3 false true false false) := by
  refine handed_shaped (C := Tryd.checked) (X := fun w _ => laidMetH Tryd.prog two w) (fun _ _ _ hh h => h.of_heap hh) own started (by kernel_rfl) Tryd.func3
    (ChangeSpec.witness_at (enc := enc) (C := Tryd.checked) (os := os) (X := fun w _ => laidMetH Tryd.prog two w) false
      (start os)
      #[.string ⟨#[]⟩] 8 rfl (by kernel_rfl) (by kernel_rfl) (by kernel_rfl) (by kernel_rfl) (by kernel_rfl) (laidMet_of_run' 8 (by kernel_rfl) (by kernel_rfl))) ?_
  intro W base args ds gs before hval0 hW hsz hsh
  have hval : ∀ (j : Nat) t v, Tryd.f3.params[j]? = some t → args[j]? = some v → Value.okWide Tryd.prog W .any base t v := hval0
  have hW' := hW
  obtain ⟨p, q, hA0, hV0, rfl, hfz, hnd⟩ := hW
  have hA : DataW.TrodAll enc Tryd.prog W 0 (fun _ => true) true Tryd.f3.params.toList args.toList ds p := hA0
  have hV : DataW.TrodVars enc Tryd.prog W (fun _ => true) [] gs q := hV0
  rw [Tryd.params3] at hA hval
  obtain ⟨v0, vs0, d0, ds0, p0, q0, hargs, rfl, rfl, h0, r0⟩ := trodAll_cons hA
  obtain ⟨rfl, rfl, rfl⟩ := trodAll_nil r0
  obtain rfl : args = #[v0] := by cases args; simp_all
  obtain ⟨rfl, rfl⟩ : gs = [] ∧ q = [] := by
    cases gs with
    | nil => exact ⟨rfl, hV⟩
    | cons g r => exact absurd hV (by intro h; cases h)
  obtain ⟨s0, rfl, rfl, rfl, m0⟩ := Go.ChangeMaps.open_string Tryd.underlying9 (hval 0 9 v0 rfl rfl) h0
  clear hA0 hval0
  refine (walk s0 W (shaped hsh) m0).mono fun e W' ⟨he, st⟩ => ?_
  subst he
  exact ⟨_, rfl, _, _, _, [], _, [], hW', trodAll_mk1 (shut_bool Tryd.underlying4 _), (trodAll_cons_mk (Go.ChangeMaps.shut_string Tryd.underlying9 m0) trodAll_mk0), rfl, st.frame _, fun h => by cases h⟩

theorem over : Rows.PathCleansSaid :=
  OpenClaim.holds_of_wide 3 Tryd.f3 rfl rfl rfl rfl rfl rfl rfl ⟨rfl, rfl, rfl, rfl, rfl⟩ rfl rfl rfl rfl rfl (by kernel_rfl) Tryd.func3 (by kernel_rfl)
    (of_decide_eq_true (by kernel_rfl)) (by unfold Func.isWrapper; rw [if_neg (of_decide_eq_false (by kernel_rfl))]; exact ⟨rfl, rfl⟩)
    (fun os started H enc _ => lifted os started H enc)

theorem carded : Rows.PathCleansCardSaid :=
  Claim7.holds_tied_plain_at .later [] _ _ _ _
    over (fun _ h => by cases h) (by kernel_rfl) (fun _ h => by cases h) pathCleans_row_tie rfl ⟨rfl, rfl⟩ (by kernel_rfl) rfl
    (fun f fn hf hfn => by
      obtain rfl : f = 3 := Option.some.inj ((show Tryd.prog.funcNamed Tryd.f3.name = some 3 by kernel_rfl).symm.trans hf) |>.symm
      obtain rfl : fn = Tryd.f3 := (Option.some.inj (Tryd.func3.symm.trans hfn)).symm
      refine ⟨by kernel_rfl, fun j t ht => ?_⟩
      have hall : ∀ t ∈ Tryd.f3.params, Tryd.prog.wantsStandIn t = false := by
        rw [Tryd.params3]
        intro t ht
        simp at ht
        subst ht; kernel_rfl
      exact hall t (Array.mem_of_getElem? ht))
    (by kernel_rfl)

end Go.Proofs.YtmeaiplinkodiaaDoor.pathCleans
namespace Go.Proofs.YtmeaiplinkodiaaDoor
theorem pathCleans_holds : Rows.PathCleansCardSaid := pathCleans.carded
#print axioms pathCleans_holds
end Go.Proofs.YtmeaiplinkodiaaDoor
