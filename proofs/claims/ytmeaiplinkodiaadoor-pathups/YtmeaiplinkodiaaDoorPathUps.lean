/-
  The card of the law PathUps holds: it returns true for every input, the variables of the library that it lists being as the program text lays them.
-/
import Derived.Test.YtmeaiplinkodiaaDoorLaid
import Derived.Test.YtmeaiplinkodiaaDoorCards
import Derived.Test.YtmeaiplinkodiaaDoorTie
import Derived.Test.YtmeaiplinkodiaaDoorUp
namespace Go.Proofs.YtmeaiplinkodiaaDoor.pathUps
open Go.ChangeShapes Go.WideShapes Go.RowKit
set_option linter.unusedVariables false
set_option linter.unusedSimpArgs false

theorem Sl.take {w : World} {ad : Option Addr} {ps : List (List UInt8)} (h : Sl w ad ps) (k : Nat) : Sl w ad (ps.take k) := by
  rcases h with h | ⟨b, o, h1, h2, h3⟩
  · subst h; exact .inl (by simp)
  · refine .inr ⟨b, o, h1, h2, fun i x hx => h3 i x ?_⟩
    rw [List.getElem?_take] at hx
    split at hx
    · exact hx
    · simp at hx

theorem under_eq (qs ps : List (List UInt8)) : decide (qs <+: ps) = (decide (qs.length ≤ ps.length) && smB (ps.take qs.length) qs) := by
  rw [Bool.eq_iff_iff]
  simp only [Bool.and_eq_true, decide_eq_true_eq, smB, List.prefix_iff_eq_take]
  constructor
  · intro h
    refine ⟨?_, h.symm⟩
    have := congrArg List.length h
    rw [List.length_take] at this
    omega
  · intro h; exact h.2.symm

set_option maxHeartbeats 2000000 in
theorem walk_in (l m : List UInt8) (w : World) (hm : Ml w) (h0 : err l = 0) (h0' : err m = 0) (h1 : l.length ≤ 1000) (h2 : m.length ≤ 1000) :
    Calls Tryd.prog 5 #[.string (bs l), .string (bs m)] w fun e w' => e = .returned (.bool true) ∧ Below w.heap.size w w' := by
  have q0 := cleans_w w hm
  have hg : ∀ p ∈ cln l, Good p := by unfold cln; rw [if_pos h0]; exact parts_good l h0
  have hg' : ∀ p ∈ cln m, Good p := by unfold cln; rw [if_pos h0']; exact parts_good m h0'
  have KQ1 : Hid (∀ W, Below w.heap.size w W → Calls Tryd.prog 10 #[.string (bs l)] W fun e w' => ∃ ad c, e = .returned (.tuple #[.slice ad (cln l).length c, .int .i64 0]) ∧ (cln l).length ≤ c ∧ c ≤ 9223372036854775807 ∧ Hid (Sl w' ad (cln l)) ∧ Below W.heap.size W w') := fun W hb => by
    have := clean_sl l (by omega) W (hm.below hb)
    rwa [h0] at this
  have KQ2 : Hid (∀ W, Below w.heap.size w W → Calls Tryd.prog 10 #[.string (bs m)] W fun e w' => ∃ ad c, e = .returned (.tuple #[.slice ad (cln m).length c, .int .i64 0]) ∧ (cln m).length ≤ c ∧ c ≤ 9223372036854775807 ∧ Hid (Sl w' ad (cln m)) ∧ Below W.heap.size W w') := fun W hb => by
    have := clean_sl m (by omega) W (hm.below hb)
    rwa [h0'] at this
  have z1 := bs_size l
  have z2 := bs_size m
  have hjl : (jn (cln l)).length ≤ 1000 := by unfold cln; rw [if_pos h0]; have := jn_parts_length l; omega
  have hjm : (jn (cln m)).length ≤ 1000 := by unfold cln; rw [if_pos h0']; have := jn_parts_length m; omega
  have hcl : 2 * (cln l).length ≤ (jn (cln l)).length + 1 := jn_len_count _ fun p hp => (hg p hp).1
  have hcm : 2 * (cln m).length ≤ (jn (cln m)).length + 1 := jn_len_count _ fun p hp => (hg' p hp).1
  clear hm h0 h0'
  generalize cln l = ps at *
  generalize cln m = qs at *
  have KJ1 : Hid (∀ W ad c, Sl W ad ps → ps.length ≤ c → Calls Tryd.prog 15 #[.slice ad ps.length c] W fun e w' => e = .returned (.string (bs (jn ps))) ∧ Below W.heap.size W w') := fun W ad c hs hc => join_w ad c ps W hs hc (by omega) (by omega)
  have KJ2 : Hid (∀ W ad c, Sl W ad qs → qs.length ≤ c → Calls Tryd.prog 15 #[.slice ad qs.length c] W fun e w' => e = .returned (.string (bs (jn qs))) ∧ Below W.heap.size W w') := fun W ad c hs hc => join_w ad c qs W hs hc (by omega) (by omega)
  have qU : ∀ W, Calls Tryd.prog 20 #[.string (bs (jn qs)), .string (bs (jn ps))] W fun e w' => e = .returned (.bool (decide (qs <+: ps))) ∧ w' = W := fun W => by
    have := under_w (jn qs) (jn ps) W
    rwa [und_jn qs ps hg' hg] at this
  have HU := under_eq qs ps
  have KS : Hid (∀ W ad1 ad2 c1 c2, Sl W ad1 ps → Sl W ad2 qs → ps.length ≤ c1 → qs.length ≤ c2 → qs.length ≤ ps.length → Calls Tryd.prog 12 #[.slice ad1 qs.length c1, .slice ad2 qs.length c2] W fun e w' => e = .returned (.bool (smB (ps.take qs.length) qs)) ∧ Below W.heap.size W w') := fun W ad1 ad2 c1 c2 hs1 hs2 hc1 hc2 hle => by
    have hlen : (ps.take qs.length).length = qs.length := by rw [List.length_take]; omega
    have := same_w ad1 ad2 c1 c2 (ps.take qs.length) qs W (Sl.take hs1 _) hs2 (by omega) hc2 (by omega) (by omega)
    rwa [hlen] at this
  by_cases hne : ps = []
  · subst hne
    have qP : ∀ W, Calls Tryd.prog 21 #[.string (bs (jn []))] W fun e w' => e = .returned (.tuple #[.string (bs []), .bool false]) ∧ w' = W := fun W => up_root W
    rw [List.length_nil] at *
    generalize jn [] = P at *
    generalize jn qs = Q at *
    generalize hM : qs.length = M at *
    by_cases hle : M ≤ 0
    · obtain rfl : M = 0 := by omega
      rw [decide_eq_true hle, Bool.true_and] at HU
      rw [HU] at qU
      generalize smB (List.take 0 []) qs = z at *
      clear HU hM hg hg'
      go_enter Tryd.func5, Tryd.ntmps5
      go_wp2_with (first
        | (go_at_call 12; refine (KS.out _ _ _ _ _ ((hs1.out.below b2).below (b3.trans (b4.mono b3.size))) (hs2.out.below (b3.trans (b4.mono b3.size))) hc1 hc2 (Nat.le_refl _)).mono ?_; rintro e w5 ⟨rfl, b5⟩; have b05 := b04.trans (b5.mono b04.size))
        | (go_at_call 20; refine (qU _).mono ?_; rintro e w' ⟨rfl, hw⟩; rw [hw])
        | (go_at_call 21; refine (qP _).mono ?_; rintro e w' ⟨rfl, hw⟩; rw [hw])
        | (go_at_call 15; refine (KJ2.out _ _ _ (hs2.out.below b3) hc2).mono ?_; rintro e w4 ⟨rfl, b4⟩; have b04 := b03.trans (b4.mono b03.size))
        | (go_at_call 15; refine (KJ1.out _ _ _ (hs1.out.below b2) hc1).mono ?_; rintro e w3 ⟨rfl, b3⟩; have b03 := b02.trans (b3.mono b02.size))
        | (go_at_call 10; refine (KQ2.out _ b01).mono ?_; rintro e w2 ⟨ad2, c2, rfl, hc2, hm2, hs2, b2⟩; have b02 := b01.trans (b2.mono b01.size))
        | (go_at_call 10; refine (KQ1.out _ b00).mono ?_; rintro e w1 ⟨ad1, c1, rfl, hc1, hm1, hs1, b1⟩; have b01 := b00.trans (b1.mono b00.size))
        | (go_at_call 9; refine q0.mono ?_; rintro e w0 ⟨rfl, b00⟩))
      go_ret
      exact ⟨by cases z <;> rfl, b05⟩
    · rw [decide_eq_false hle, Bool.false_and] at HU
      rw [HU] at qU
      clear HU hM hg hg'
      go_enter Tryd.func5, Tryd.ntmps5
      go_wp2_with (first
        | (go_at_call 20; refine (qU _).mono ?_; rintro e w' ⟨rfl, hw⟩; rw [hw])
        | (go_at_call 21; refine (qP _).mono ?_; rintro e w' ⟨rfl, hw⟩; rw [hw])
        | (go_at_call 15; refine (KJ2.out _ _ _ (hs2.out.below b3) hc2).mono ?_; rintro e w4 ⟨rfl, b4⟩; have b04 := b03.trans (b4.mono b03.size))
        | (go_at_call 15; refine (KJ1.out _ _ _ (hs1.out.below b2) hc1).mono ?_; rintro e w3 ⟨rfl, b3⟩; have b03 := b02.trans (b3.mono b02.size))
        | (go_at_call 10; refine (KQ2.out _ b01).mono ?_; rintro e w2 ⟨ad2, c2, rfl, hc2, hm2, hs2, b2⟩; have b02 := b01.trans (b2.mono b01.size))
        | (go_at_call 10; refine (KQ1.out _ b00).mono ?_; rintro e w1 ⟨ad1, c1, rfl, hc1, hm1, hs1, b1⟩; have b01 := b00.trans (b1.mono b00.size))
        | (go_at_call 9; refine q0.mono ?_; rintro e w0 ⟨rfl, b00⟩))
      go_ret
      exact ⟨rfl, b04⟩
  · have hjne : jn ps ≠ [] := fun e => hne ((jn_nil_iff ps hg).1 e)
    have qP : ∀ W, Calls Tryd.prog 21 #[.string (bs (jn ps))] W fun e w' => e = .returned (.tuple #[.string (bs (jn ps.dropLast)), .bool true]) ∧ w' = W := fun W => by
      have := up_some (jn ps) hjne (by omega) W
      rwa [up_jn ps hg hne] at this
    have hgd : ∀ p ∈ ps.dropLast, Good p := fun p hp => hg p (List.dropLast_subset _ hp)
    have qV : ∀ W, Calls Tryd.prog 20 #[.string (bs (jn ps.dropLast)), .string (bs (jn ps))] W fun e w' => e = .returned (.bool true) ∧ w' = W := fun W => by
      have := under_w (jn ps.dropLast) (jn ps) W
      rwa [und_jn _ ps hgd hg, decide_eq_true (List.dropLast_prefix ps)] at this
    have hdl : ps.dropLast.length = ps.length - 1 := List.length_dropLast
    have hjd : (jn ps.dropLast).length ≤ 1000 := by
      have e := up_jn ps hg hne
      rw [← e]
      unfold upL
      rw [List.length_take]
      omega
    have hpos : 1 ≤ ps.length := List.length_pos_iff.2 hne
    have KJ3 : Hid (∀ W ad c, Sl W ad ps → ps.length ≤ c → Calls Tryd.prog 15 #[.slice ad (ps.length - 1) c] W fun e w' => e = .returned (.string (bs (jn ps.dropLast))) ∧ Below W.heap.size W w') := fun W ad c hs hc => by
      have := join_w ad c ps.dropLast W (by rw [List.dropLast_eq_take]; exact Sl.take hs _) (by omega) (by omega) (by omega)
      rwa [hdl] at this
    have tP := bs_toList (jn ps.dropLast)
    generalize jn ps.dropLast = D at *
    generalize jn ps = P at *
    generalize jn qs = Q at *
    generalize hM : qs.length = M at *
    generalize hN : ps.length = N at *
    obtain ⟨k, rfl⟩ : ∃ k, N = k + 1 := ⟨N - 1, by omega⟩
    rw [Nat.add_sub_cancel] at KJ3
    by_cases hle : M ≤ k + 1
    · rw [decide_eq_true hle, Bool.true_and] at HU
      rw [HU] at qU
      generalize smB (List.take M ps) qs = z at *
      clear HU hM hN hg hg' hdl
      go_enter Tryd.func5, Tryd.ntmps5
      go_wp2_with (first
        | (go_at_call 12; refine (KS.out _ _ _ _ _ (((hs1.out.below b2).below (b3.trans (b4.mono b3.size))).below b6) ((hs2.out.below (b3.trans (b4.mono b3.size))).below b6) hc1 hc2 hle).mono ?_; rintro e w5 ⟨rfl, b5⟩; have b05 := b06.trans (b5.mono b06.size))
        | (go_at_call 20; have vd := vdone; refine (qU _).mono ?_; rintro e w' ⟨rfl, hw⟩; rw [hw])
        | (go_at_call 20; refine (qV _).mono ?_; rintro e w' ⟨rfl, hw⟩; rw [hw]; have vdone := trivial)
        | (go_at_call 21; refine (qP _).mono ?_; rintro e w' ⟨rfl, hw⟩; rw [hw])
        | (go_at_call 15; refine (KJ3.out _ _ _ ((hs1.out.below b2).below (b3.trans (b4.mono b3.size))) hc1).mono ?_; rintro e w6 ⟨rfl, b6⟩; have b06 := b04.trans (b6.mono b04.size))
        | (go_at_call 15; refine (KJ2.out _ _ _ (hs2.out.below b3) hc2).mono ?_; rintro e w4 ⟨rfl, b4⟩; have b04 := b03.trans (b4.mono b03.size))
        | (go_at_call 15; refine (KJ1.out _ _ _ (hs1.out.below b2) hc1).mono ?_; rintro e w3 ⟨rfl, b3⟩; have b03 := b02.trans (b3.mono b02.size))
        | (go_at_call 10; refine (KQ2.out _ b01).mono ?_; rintro e w2 ⟨ad2, c2, rfl, hc2, hm2, hs2, b2⟩; have b02 := b01.trans (b2.mono b01.size))
        | (go_at_call 10; refine (KQ1.out _ b00).mono ?_; rintro e w1 ⟨ad1, c1, rfl, hc1, hm1, hs1, b1⟩; have b01 := b00.trans (b1.mono b00.size))
        | (go_at_call 9; refine q0.mono ?_; rintro e w0 ⟨rfl, b00⟩))
      go_ret
      exact ⟨by cases z <;> rfl, b05⟩
    · rw [decide_eq_false hle, Bool.false_and] at HU
      rw [HU] at qU
      clear HU hM hN hg hg' hdl
      go_enter Tryd.func5, Tryd.ntmps5
      go_wp2_with (first
        | (go_at_call 20; have vd := vdone; refine (qU _).mono ?_; rintro e w' ⟨rfl, hw⟩; rw [hw])
        | (go_at_call 20; refine (qV _).mono ?_; rintro e w' ⟨rfl, hw⟩; rw [hw]; have vdone := trivial)
        | (go_at_call 21; refine (qP _).mono ?_; rintro e w' ⟨rfl, hw⟩; rw [hw])
        | (go_at_call 15; refine (KJ3.out _ _ _ ((hs1.out.below b2).below (b3.trans (b4.mono b3.size))) hc1).mono ?_; rintro e w6 ⟨rfl, b6⟩; have b06 := b04.trans (b6.mono b04.size))
        | (go_at_call 15; refine (KJ2.out _ _ _ (hs2.out.below b3) hc2).mono ?_; rintro e w4 ⟨rfl, b4⟩; have b04 := b03.trans (b4.mono b03.size))
        | (go_at_call 15; refine (KJ1.out _ _ _ (hs1.out.below b2) hc1).mono ?_; rintro e w3 ⟨rfl, b3⟩; have b03 := b02.trans (b3.mono b02.size))
        | (go_at_call 10; refine (KQ2.out _ b01).mono ?_; rintro e w2 ⟨ad2, c2, rfl, hc2, hm2, hs2, b2⟩; have b02 := b01.trans (b2.mono b01.size))
        | (go_at_call 10; refine (KQ1.out _ b00).mono ?_; rintro e w1 ⟨ad1, c1, rfl, hc1, hm1, hs1, b1⟩; have b01 := b00.trans (b1.mono b00.size))
        | (go_at_call 9; refine q0.mono ?_; rintro e w0 ⟨rfl, b00⟩))
      go_ret
      exact ⟨rfl, b06⟩

set_option maxHeartbeats 1000000 in
theorem walk_out (l m : List UInt8) (w : World) (hm : Ml w) (hl : l.length ≤ 9223372036854775807) (hl2 : m.length ≤ 9223372036854775807) (h : err l ≠ 0 ∨ err m ≠ 0 ∨ 1000 < l.length ∨ 1000 < m.length) :
    Calls Tryd.prog 5 #[.string (bs l), .string (bs m)] w fun e w' => e = .returned (.bool true) ∧ Below w.heap.size w w' := by
  have q0 := cleans_w w hm
  have KQ : Hid (∀ x W, x.length ≤ 9223372036854775807 → Below w.heap.size w W → Calls Tryd.prog 10 #[.string (bs x)] W fun e w' => ∃ ad c, e = .returned (.tuple #[.slice ad (cln x).length c, .int .i64 (err x)]) ∧ (cln x).length ≤ c ∧ c ≤ 9223372036854775807 ∧ Hid (Sl w' ad (cln x)) ∧ Below W.heap.size W w') := fun x W hx hb => clean_sl x hx W (hm.below hb)
  have z1 := bs_size l
  have z2 := bs_size m
  have KQ1 : Hid _ := fun W => KQ.out l W hl
  have KQ2 : Hid _ := fun W => KQ.out m W hl2
  clear hm KQ
  generalize (cln l).length = n at *
  generalize err l = z at *
  generalize (cln m).length = n2 at *
  generalize hy : err m = y at *
  clear hy
  by_cases c1 : z = 0
  · subst c1
    by_cases c2 : y = 0
    · subst c2
      by_cases c3 : 1000 < l.length
      · go_enter Tryd.func5, Tryd.ntmps5
        go_wp2_with (first
          | (go_at_call 10; refine (KQ2.out _ b01).mono ?_; rintro e w2 ⟨ad2, c2, rfl, hc2, hm2, hs2, b2⟩; have b02 := b01.trans (b2.mono b01.size))
          | (go_at_call 10; refine (KQ1.out _ b00).mono ?_; rintro e w1 ⟨ad1, c1, rfl, hc1, hm1, hs1, b1⟩; have b01 := b00.trans (b1.mono b00.size))
          | (go_at_call 9; refine q0.mono ?_; rintro e w0 ⟨rfl, b00⟩))
        go_ret
        exact ⟨rfl, b02⟩
      · have c4 : 1000 < m.length := by omega
        go_enter Tryd.func5, Tryd.ntmps5
        go_wp2_with (first
          | (go_at_call 10; refine (KQ2.out _ b01).mono ?_; rintro e w2 ⟨ad2, c2, rfl, hc2, hm2, hs2, b2⟩; have b02 := b01.trans (b2.mono b01.size))
          | (go_at_call 10; refine (KQ1.out _ b00).mono ?_; rintro e w1 ⟨ad1, c1, rfl, hc1, hm1, hs1, b1⟩; have b01 := b00.trans (b1.mono b00.size))
          | (go_at_call 9; refine q0.mono ?_; rintro e w0 ⟨rfl, b00⟩))
        go_ret
        exact ⟨rfl, b02⟩
    · clear h
      go_enter Tryd.func5, Tryd.ntmps5
      go_wp2_with (first
        | (go_at_call 10; refine (KQ2.out _ b01).mono ?_; rintro e w2 ⟨ad2, c2, rfl, hc2, hm2, hs2, b2⟩; have b02 := b01.trans (b2.mono b01.size))
        | (go_at_call 10; refine (KQ1.out _ b00).mono ?_; rintro e w1 ⟨ad1, c1, rfl, hc1, hm1, hs1, b1⟩; have b01 := b00.trans (b1.mono b00.size))
        | (go_at_call 9; refine q0.mono ?_; rintro e w0 ⟨rfl, b00⟩))
      go_ret
      exact ⟨rfl, b02⟩
  · clear h
    go_enter Tryd.func5, Tryd.ntmps5
    go_wp2_with (first
      | (go_at_call 10; refine (KQ2.out _ b01).mono ?_; rintro e w2 ⟨ad2, c2, rfl, hc2, hm2, hs2, b2⟩; have b02 := b01.trans (b2.mono b01.size))
      | (go_at_call 10; refine (KQ1.out _ b00).mono ?_; rintro e w1 ⟨ad1, c1, rfl, hc1, hm1, hs1, b1⟩; have b01 := b00.trans (b1.mono b00.size))
      | (go_at_call 9; refine q0.mono ?_; rintro e w0 ⟨rfl, b00⟩))
    go_ret
    exact ⟨rfl, b02⟩

theorem walk (s t : ByteArray) (w : World) (hm : Ml w) (hs : s.size ≤ maxLen) (hs2 : t.size ≤ maxLen) :
    Calls Tryd.prog 5 #[.string s, .string t] w fun e w' => e = .returned (.bool true) ∧ Below w.heap.size w w' := by
  rw [bs_of s] at hs ⊢
  rw [bs_of t] at hs2 ⊢
  rw [bs_size] at hs hs2
  unfold maxLen at hs hs2
  generalize s.data.toList = l at *
  generalize t.data.toList = m at *
  by_cases h : err l ≠ 0 ∨ err m ≠ 0 ∨ 1000 < l.length ∨ 1000 < m.length
  · exact walk_out l m w hm hs hs2 h
  · simp only [not_or, Classical.not_not] at h
    exact walk_in l m w hm h.1 h.2.1 (by omega) (by omega)

set_option maxRecDepth 100000 in
theorem lifted (os : Os) (started : os.Started) (H : Type) (enc : TypeId × Value → H) :
    ReturnsInHanded {} Tryd.checked os 5 .any (fun w args => (Rows.pathUpsSpec.pre enc Tryd.prog Tryd.f5 [] false w args ∧ laidMetH Tryd.prog two w) ∧ sizedMet enc Tryd.prog Tryd.f5 (OpenSpec.ofChange Rows.pathUpsSpec) false w args)
      (Rows.pathUpsSpec.post enc Tryd.prog Tryd.f5 false true false false) := by
  refine handed_shaped (C := Tryd.checked) (X := fun w _ => laidMetH Tryd.prog two w) (fun _ _ _ hh h => h.of_heap hh) own started (by kernel_rfl) Tryd.func5
    (ChangeSpec.witness_at (enc := enc) (C := Tryd.checked) (os := os) (X := fun w _ => laidMetH Tryd.prog two w) false
      (start os)
      #[.string ⟨#[]⟩, .string ⟨#[]⟩] 8 rfl (by kernel_rfl) (by kernel_rfl) (by kernel_rfl) (by kernel_rfl) (by kernel_rfl) (laidMet_of_run' 8 (by kernel_rfl) (by kernel_rfl))) ?_
  intro W base args ds gs before hval0 hW hsz hsh
  have hval : ∀ (j : Nat) t v, Tryd.f5.params[j]? = some t → args[j]? = some v → Value.okWide Tryd.prog W .any base t v := hval0
  have hW' := hW
  obtain ⟨p, q, hA0, hV0, rfl, hfz, hnd⟩ := hW
  have hA : DataW.TrodAll enc Tryd.prog W 0 (fun _ => true) true Tryd.f5.params.toList args.toList ds p := hA0
  have hV : DataW.TrodVars enc Tryd.prog W (fun _ => true) [] gs q := hV0
  rw [Tryd.params5] at hA hval
  obtain ⟨v0, vs0, d0, ds0, p0, q0, hargs, rfl, rfl, h0, r0⟩ := trodAll_cons hA
  obtain ⟨v1, vs1, d1, ds1, p1, q1, rfl, rfl, rfl, h1, r1⟩ := trodAll_cons r0
  obtain ⟨rfl, rfl, rfl⟩ := trodAll_nil r1
  obtain rfl : args = #[v0, v1] := by cases args; simp_all
  obtain ⟨rfl, rfl⟩ : gs = [] ∧ q = [] := by
    cases gs with
    | nil => exact ⟨rfl, hV⟩
    | cons g r => exact absurd hV (by intro h; cases h)
  obtain ⟨s0, rfl, rfl, rfl, m0⟩ := Go.ChangeMaps.open_string Tryd.underlying9 (hval 0 9 v0 rfl rfl) h0
  obtain ⟨s1, rfl, rfl, rfl, m1⟩ := Go.ChangeMaps.open_string Tryd.underlying9 (hval 1 9 v1 rfl rfl) h1
  clear hA0 hval0
  refine (walk s0 s1 W (shaped hsh) m0 m1).mono fun e W' ⟨he, st⟩ => ?_
  subst he
  exact ⟨_, rfl, _, _, _, [], _, [], hW', trodAll_mk1 (shut_bool Tryd.underlying4 _), (trodAll_cons_mk (Go.ChangeMaps.shut_string Tryd.underlying9 m0) (trodAll_cons_mk (Go.ChangeMaps.shut_string Tryd.underlying9 m1) trodAll_mk0)), rfl, st.frame _, fun h => by cases h⟩

theorem over : Rows.PathUpsSaid :=
  OpenClaim.holds_of_wide 5 Tryd.f5 rfl rfl rfl rfl rfl rfl rfl ⟨rfl, rfl, rfl, rfl, rfl⟩ rfl rfl rfl rfl rfl (by kernel_rfl) Tryd.func5 (by kernel_rfl)
    (of_decide_eq_true (by kernel_rfl)) (by unfold Func.isWrapper; rw [if_neg (of_decide_eq_false (by kernel_rfl))]; exact ⟨rfl, rfl⟩)
    (fun os started H enc _ => lifted os started H enc)

theorem carded : Rows.PathUpsCardSaid :=
  Claim7.holds_tied_plain_at .later [] _ _ _ _
    over (fun _ h => by cases h) (by kernel_rfl) (fun _ h => by cases h) pathUps_row_tie rfl ⟨rfl, rfl⟩ (by kernel_rfl) rfl
    (fun f fn hf hfn => by
      obtain rfl : f = 5 := Option.some.inj ((show Tryd.prog.funcNamed Tryd.f5.name = some 5 by kernel_rfl).symm.trans hf) |>.symm
      obtain rfl : fn = Tryd.f5 := (Option.some.inj (Tryd.func5.symm.trans hfn)).symm
      refine ⟨by kernel_rfl, fun j t ht => ?_⟩
      have hall : ∀ t ∈ Tryd.f5.params, Tryd.prog.wantsStandIn t = false := by
        rw [Tryd.params5]
        intro t ht
        simp at ht
        subst ht; kernel_rfl
      exact hall t (Array.mem_of_getElem? ht))
    (by kernel_rfl)

end Go.Proofs.YtmeaiplinkodiaaDoor.pathUps
namespace Go.Proofs.YtmeaiplinkodiaaDoor
theorem pathUps_holds : Rows.PathUpsCardSaid := pathUps.carded
#print axioms pathUps_holds
end Go.Proofs.YtmeaiplinkodiaaDoor
