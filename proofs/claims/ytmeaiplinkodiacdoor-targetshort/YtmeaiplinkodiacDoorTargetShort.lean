/-
  The card of the law TargetShort holds: it returns true for every input, the variables of the library that it lists being as the program text lays them.
-/
import Derived.Test.YtmeaiplinkodiacDoorLaid
import Derived.Test.YtmeaiplinkodiacDoorCards
import Derived.Test.YtmeaiplinkodiacDoorTie
import Derived.Test.YtmeaiplinkodiacDoorRs
namespace Go.Proofs.YtmeaiplinkodiacDoor.targetShort
open Go.ChangeShapes Go.WideShapes Go.RowKit
set_option linter.unusedVariables false
set_option linter.unusedSimpArgs false

theorem strip_drop (X Y : List (List UInt8)) (k : Nat) (p : List UInt8) (h1 : X[k]? = some p) (h2 : Y[k]? = some p) : strip (X.drop k) (Y.drop k) = strip (X.drop (k + 1)) (Y.drop (k + 1)) := by
  rw [badOf_step X k p h1, badOf_step Y k p h2, strip_eq]

/-- the steps of a name, the dot left out -/
theorem parts_rel (X Y : List (List UInt8)) (hY : ∀ p ∈ Y, Good p) : parts (rel X Y) = List.replicate (strip X Y).1.length [46, 46] ++ (strip X Y).2 := by
  obtain ⟨c, h1, h2⟩ := strip_spec X Y
  have hs := relP_snd X Y hY
  unfold rel
  rw [parts_jn _ (relP_ne X Y) fun p hp => (hs p hp).1.1]
  unfold relP
  split
  · rename_i h; rw [h.1, h.2]; decide
  · rw [List.filter_append]
    congr 1
    · exact List.filter_eq_self.2 fun p hp => by obtain ⟨_, rfl⟩ := List.mem_replicate.1 hp; decide
    · exact filter_good _ fun p hp => hY p (by rw [h2]; simp [hp])

/-- how many steps up and down there are among the first -/
def upsTo (f i : Nat) : Nat := min i f
def downsTo (f i : Nat) : Nat := i - f

set_option maxRecDepth 20000 in
set_option maxHeartbeats 4000000 in
theorem walk_in (l m : List UInt8) (hl : l.length ≤ 9223372036854775807) (hl2 : m.length ≤ 9223372036854775807) (w : World) (hm : Ml w) (h1 : okP l = true) (h2 : okP m = true) :
    Calls Tryd.prog 3 #[.string (bs l), .string (bs m)] w fun e w' => e = .returned (.bool true) ∧ Below w.heap.size w w' := by
  have q0 := points_w w hm
  obtain ⟨g1, j1⟩ := ok_good l h1
  obtain ⟨g2, j2⟩ := ok_good m h2
  have KC1 : Hid (∀ W, Below w.heap.size w W → Calls Tryd.prog 6 #[.string (bs l)] W fun e w' => e = .returned (.tuple #[.string (bs (jn (cln l))), .bool true]) ∧ Below W.heap.size W w') := fun W hb => by
    have := cleanp_w l hl W (hm.below hb); rwa [h1] at this
  have KC2 : Hid (∀ W, Below w.heap.size w W → Calls Tryd.prog 6 #[.string (bs m)] W fun e w' => e = .returned (.tuple #[.string (bs (jn (cln m))), .bool true]) ∧ Below W.heap.size W w') := fun W hb => by
    have := cleanp_w m hl2 W (hm.below hb); rwa [h2] at this
  have KP1 : Hid (∀ W, Below w.heap.size w W → Calls Tryd.prog 7 #[.string (bs (jn (cln l)))] W fun e w' => ∃ ad, e = .returned (.slice ad (cln l).length (cln l).length) ∧ Hid (Sl w' ad (cln l)) ∧ Below W.heap.size W w') := fun W hb => by
    have := parts_w (jn (cln l)) (by omega) W (hm.below hb); rwa [prt_jn _ g1] at this
  have KP2 : Hid (∀ W, Below w.heap.size w W → Calls Tryd.prog 7 #[.string (bs (jn (cln m)))] W fun e w' => ∃ ad, e = .returned (.slice ad (cln m).length (cln m).length) ∧ Hid (Sl w' ad (cln m)) ∧ Below W.heap.size W w') := fun W hb => by
    have := parts_w (jn (cln m)) (by omega) W (hm.below hb); rwa [prt_jn _ g2] at this
  have KL : Hid (∀ W, Below w.heap.size w W → Calls Tryd.prog 9 #[.string (bs (jn (cln l))), .string (bs (jn (cln m)))] W fun e w' => e = .returned (.string (bs (rel (cln l) (cln m)))) ∧ Below W.heap.size W w') := fun W hb => by
    have := relative_w (jn (cln l)) (jn (cln m)) (by omega) (by omega) W (hm.below hb); rwa [prt_jn _ g1, prt_jn _ g2] at this
  have hrl := rel_len (cln l) (cln m) fun p hp => (g1 p hp).1
  have KS : Hid (∀ W, Calls Tryd.prog 8 #[.string (bs (rel (cln l) (cln m)))] W fun e w' => ∃ ad c, e = .returned (.slice ad (parts (rel (cln l) (cln m))).length c) ∧ (parts (rel (cln l) (cln m))).length ≤ c ∧ c ≤ 9223372036854775807 ∧ Hid (Sl w' ad (parts (rel (cln l) (cln m)))) ∧ Below W.heap.size W w') := fun W => rsplit_w (rel (cln l) (cln m)) (by omega) W
  have hpr := parts_rel (cln l) (cln m) g2
  obtain ⟨c0, hs1, hs2⟩ := strip_spec (cln l) (cln m)
  have HGd : Hid (∀ (i : Nat) (x : List UInt8), (strip (cln l) (cln m)).2[i]? = some x → (x == [46, 46]) = false) := hid (fun i x hx => by
    have := g2 x (by rw [hs2]; exact List.mem_append_right _ (List.mem_of_getElem? hx))
    simpa using this.2.2.1)
  have hc1 : 2 * (cln l).length ≤ (jn (cln l)).length + 1 := jn_len_count _ fun p hp => (g1 p hp).1
  have hc2 : 2 * (cln m).length ≤ (jn (cln m)).length + 1 := jn_len_count _ fun p hp => (g2 p hp).1
  have hfl : (strip (cln l) (cln m)).1.length ≤ 1000 := by have := congrArg List.length hs1; simp at this; omega
  have hgl : (strip (cln l) (cln m)).2.length ≤ 1000 := by have := congrArg List.length hs2; simp at this; omega
  rw [hpr] at KS
  have hn1 : (cln l).length ≤ 1000 := by omega
  have hn2 : (cln m).length ≤ 1000 := by omega
  clear g1 g2 hm h1 h2 hrl hpr hs1 hs2 hc1 hc2 j1 j2
  generalize rel (cln l) (cln m) = R at *
  generalize jn (cln l) = D at *
  generalize jn (cln m) = T at *
  generalize cln l = X at *
  generalize cln m = Y at *
  generalize hst : strip X Y = st at *
  have HSt : Hid (strip X Y = st) := hst
  clear hst
  have hZl : (List.replicate st.1.length ([46, 46] : List UInt8) ++ st.2).length = st.1.length + st.2.length := by simp
  rw [hZl] at KS
  have HZ : Hid (∀ (i : Nat) (x : List UInt8), (List.replicate st.1.length ([46, 46] : List UInt8) ++ st.2)[i]? = some x → (i < st.1.length → x = [46, 46]) ∧ (st.1.length ≤ i → (x == [46, 46]) = false)) := hid (fun i x hx => by
    constructor
    · intro h
      rw [List.getElem?_append_left (by simpa using h), List.getElem?_replicate, if_pos h] at hx
      exact (Option.some.inj hx).symm
    · intro h
      rw [List.getElem?_append_right (by simpa using h), List.length_replicate] at hx
      exact HGd.out _ x hx)
  have HZl : Hid ((List.replicate st.1.length ([46, 46] : List UInt8) ++ st.2).length = st.1.length + st.2.length) := hZl
  clear hZl HGd
  generalize List.replicate st.1.length ([46, 46] : List UInt8) ++ st.2 = Z at *
  generalize hn : X.length = n at *
  generalize hmm : Y.length = mm at *
  generalize hf : st.1.length = f at *
  generalize hg : st.2.length = g at *
  go_enter Tryd.func3, Tryd.ntmps3
  go_wp2_with (first
    | (go_at_call 7; refine (KP2.out _ b03).mono ?_; rintro e w4 ⟨ad4, rfl, hs4, b4⟩; have b04 := b03.trans (b4.mono b03.size))
    | (go_at_call 7; refine (KP1.out _ b02).mono ?_; rintro e w3 ⟨ad3, rfl, hs3, b3⟩; have b03 := b02.trans (b3.mono b02.size))
    | (go_at_call 6; refine (KC2.out _ b01).mono ?_; rintro e w2 ⟨rfl, b2⟩; have b02 := b01.trans (b2.mono b01.size))
    | (go_at_call 6; refine (KC1.out _ b00).mono ?_; rintro e w1 ⟨rfl, b1⟩; have b01 := b00.trans (b1.mono b00.size))
    | (go_at_call 5; refine q0.mono ?_; rintro e w0 ⟨rfl, b00⟩))
  have HX : Hid (∀ W, Below w4.heap.size w4 W → Sl W ad3 X) := hid (fun W hb => (hs3.out.below b4).below hb)
  have HY : Hid (∀ W, Below w4.heap.size w4 W → Sl W ad4 Y) := hid (fun W hb => hs4.out.below hb)
  clear KC1 KC2 KP1 KP2 q0 hs3 hs4
  have hw4 := b04.size
  go_loopg [11] n (fun gg t11 wr => ∃ k : Nat, k + gg = n ∧ k ≤ mm ∧ t11 = .int .i64 k ∧ Hid (strip (X.drop k) (Y.drop k) = st) ∧ Below w4.heap.size w4 wr)
  case atStart => exact ⟨0, by omega, by omega, rfl, hid (by simpa using HSt.out), Below.refl _ _⟩
  case round =>
    obtain ⟨k, hkg, hkm, rfl, H, bb⟩ := hrel
    by_cases hboth : k < n ∧ k < mm
    · obtain ⟨c1, c2⟩ := hboth
      obtain ⟨p, hp⟩ : ∃ p, X[k]? = some p := ⟨X[k]'(by omega), List.getElem?_eq_getElem _⟩
      obtain ⟨q, hq⟩ : ∃ q, Y[k]? = some q := ⟨Y[k]'(by omega), List.getElem?_eq_getElem _⟩
      obtain ⟨b1', o1, ha1, hcp⟩ : ∃ b o, ad3 = some ⟨b, o, none⟩ ∧ wr.cell? ⟨b, o + k, none⟩ = some (.string (bs p)) := by
        rcases HX.out wr bb with h | ⟨b, o, h1, h2, h3⟩
        · rw [h] at hp; simp at hp
        · exact ⟨b, o, h1, h3 k p hp⟩
      obtain ⟨b2', o2, ha2, hcq⟩ : ∃ b o, ad4 = some ⟨b, o, none⟩ ∧ wr.cell? ⟨b, o + k, none⟩ = some (.string (bs q)) := by
        rcases HY.out wr bb with h | ⟨b, o, h1, h2, h3⟩
        · rw [h] at hq; simp at hq
        · exact ⟨b, o, h1, h3 k q hq⟩
      subst ha1 ha2
      have tp := bs_toList p
      have tq := bs_toList q
      have d1 : decide (k < n) = true := decide_eq_true c1
      have d2 : decide (k < mm) = true := decide_eq_true c2
      have d1' : decide ((k : Int) < (n : Int)) = true := decide_eq_true (by omega)
      have d2' : decide ((k : Int) < (mm : Int)) = true := decide_eq_true (by omega)
      by_cases e : p = q
      · subst e
        have H2 : Hid (strip (X.drop (k + 1)) (Y.drop (k + 1)) = st) := hid (by rw [← strip_drop X Y k p hp hq]; exact H.out)
        clear hp hq H
        go_wp2_with fail
        go_quiet (fail)
        have b7 := bb.drewN' nq
        generalize wr.drewN nq = w7 at *
        go_wp2_with fail
        go_roundg (n - (k + 1))
        case measure => omega
        case rel => exact ⟨k + 1, by omega, by omega, by simp, H2, b7⟩
      · have hne : (p == q) = false := beq_eq_false_iff_ne.2 e
        have hstr : st = (X.drop k, Y.drop k) := by rw [← H.out, badOf_step X k p hp, badOf_step Y k q hq, strip_ne _ _ _ _ e]
        have ef : f = n - k := by rw [← hf, hstr]; simp [hn]
        have eg : g = mm - k := by rw [← hg, hstr]; simp [hmm]
        have HFG : Hid (f = n - k ∧ g = mm - k) := ⟨ef, eg⟩
        clear hp hq H hstr ef eg
        go_wp2_with fail
        go_quiet (fail)
        have b7 := b04.trans ((bb.drewN' nq).mono hw4)
        generalize wr.drewN nq = w7 at *
        go_wp2_with (first
          | (go_at_call 8; refine (KS.out _).mono ?_; rintro e w9 ⟨ad9, c9, rfl, hc9, hm9, hs9, b9⟩; have b09 := b08.trans (b9.mono b08.size))
          | (go_at_call 9; refine (KL.out _ b7).mono ?_; rintro e w8 ⟨rfl, b8⟩; have b08 := b7.trans (b8.mono b7.size)))
        go_loop [12, 13, 66] (fun t12 t13 t66 => ∃ (i u d : Nat), i ≤ f + g ∧ t66 = .int .i64 i ∧ t12 = .int .i64 u ∧ t13 = .int .i64 d ∧ u ≤ i ∧ d ≤ i ∧ Hid (u = min i f ∧ d = i - f)) (fun _ _ t => f + g - (RowKit.intOf t).toNat)
        case atStart => exact ⟨0, 0, 0, Nat.zero_le _, rfl, rfl, rfl, Nat.le_refl _, Nat.le_refl _, hid (by omega)⟩
        case round =>
          obtain ⟨i, u, d, hi, rfl, rfl, rfl, hui, hdi, HU⟩ := hrel
          obtain ⟨hu, hd⟩ := HU.out
          by_cases hlt2 : i < f + g
          · have l1 : i < Z.length := by rw [HZl.out]; exact hlt2
            obtain ⟨x, hx⟩ : ∃ x, Z[i]? = some x := ⟨Z[i], List.getElem?_eq_getElem _⟩
            obtain ⟨bz, oz, had, hcell⟩ : ∃ b o, ad9 = some ⟨b, o, none⟩ ∧ w9.cell? ⟨b, o + i, none⟩ = some (.string (bs x)) := by
              rcases hs9.out with h | ⟨b, o, h1, h2, h3⟩
              · rw [h] at hx; simp at hx
              · exact ⟨b, o, h1, h3 i x hx⟩
            subst had
            obtain ⟨hz1, hz2⟩ := HZ.out i x hx
            have tx := bs_toList x
            clear hx l1
            by_cases hif : i < f
            · have hx46 := hz1 hif
              have hDD : (x == [46, 46]) = true := by simpa using hx46
              have hd0 : ((d : Int) == 0) = true := beq_iff_eq.2 (by omega)
              have hd0' : (d : Int) = 0 := by omega
              have HU2 : Hid (u + 1 = min (i + 1) f ∧ d = i + 1 - f) := hid (by omega)
              clear hz1 hz2 hx46 hu hd HU
              go_wp2_with fail
              go_round
              case rel => exact ⟨i + 1, u + 1, d, by omega, by simp, by simp, rfl, by omega, by omega, HU2⟩
              case measure => simp [RowKit.intOf]; omega
            · have hDD := hz2 (by omega)
              have HU2 : Hid (u = min (i + 1) f ∧ d + 1 = i + 1 - f) := hid (by omega)
              clear hz1 hz2 hu hd HU
              go_wp2_with fail
              go_round
              case rel => exact ⟨i + 1, u, d + 1, by omega, by simp, rfl, by simp, by omega, by omega, HU2⟩
              case measure => simp [RowKit.intOf]; omega
          · obtain ⟨ef, eg⟩ := HFG.out
            have q1 : (u : Int) = (n : Int) - (k : Int) := by omega
            have q2 : (d : Int) = (mm : Int) - (k : Int) := by omega
            have q3 : ((u : Int) == (n : Int) - (k : Int)) = true := beq_iff_eq.2 q1
            have q4 : ((d : Int) == (mm : Int) - (k : Int)) = true := beq_iff_eq.2 q2
            clear hu hd HU ef eg q1 q2
            go_wp2_with fail
            go_ret
            exact ⟨by first | rfl | simp [*], b09⟩
    · have hstr : st = (X.drop k, Y.drop k) := by
        rw [← H.out]
        by_cases c1 : k < n
        · have : Y.drop k = [] := List.drop_of_length_le (by omega)
          rw [this, strip_nil_right]
        · have : X.drop k = [] := List.drop_of_length_le (by omega)
          rw [this, strip_nil_left]
      have ef : f = n - k := by rw [← hf, hstr]; simp [hn]
      have eg : g = mm - k := by rw [← hg, hstr]; simp [hmm]
      have HFG : Hid (f = n - k ∧ g = mm - k) := ⟨ef, eg⟩
      by_cases c1 : k < n
      · have c2 : ¬ k < mm := fun h => hboth ⟨c1, h⟩
        have d1 : decide (k < n) = true := decide_eq_true c1
        have d2 : decide (k < mm) = false := decide_eq_false c2
        have d1' : decide ((k : Int) < (n : Int)) = true := decide_eq_true (by omega)
        have d2' : decide ((k : Int) < (mm : Int)) = false := decide_eq_false (by omega)
        clear H hstr ef eg
        go_wp2_with fail
        go_quiet (fail)
        have b7 := b04.trans ((bb.drewN' nq).mono hw4)
        generalize wr.drewN nq = w7 at *
        go_wp2_with (first
          | (go_at_call 8; refine (KS.out _).mono ?_; rintro e w9 ⟨ad9, c9, rfl, hc9, hm9, hs9, b9⟩; have b09 := b08.trans (b9.mono b08.size))
          | (go_at_call 9; refine (KL.out _ b7).mono ?_; rintro e w8 ⟨rfl, b8⟩; have b08 := b7.trans (b8.mono b7.size)))
        go_loop [12, 13, 66] (fun t12 t13 t66 => ∃ (i u d : Nat), i ≤ f + g ∧ t66 = .int .i64 i ∧ t12 = .int .i64 u ∧ t13 = .int .i64 d ∧ u ≤ i ∧ d ≤ i ∧ Hid (u = min i f ∧ d = i - f)) (fun _ _ t => f + g - (RowKit.intOf t).toNat)
        case atStart => exact ⟨0, 0, 0, Nat.zero_le _, rfl, rfl, rfl, Nat.le_refl _, Nat.le_refl _, hid (by omega)⟩
        case round =>
          obtain ⟨i, u, d, hi, rfl, rfl, rfl, hui, hdi, HU⟩ := hrel
          obtain ⟨hu, hd⟩ := HU.out
          by_cases hlt2 : i < f + g
          · have l1 : i < Z.length := by rw [HZl.out]; exact hlt2
            obtain ⟨x, hx⟩ : ∃ x, Z[i]? = some x := ⟨Z[i], List.getElem?_eq_getElem _⟩
            obtain ⟨bz, oz, had, hcell⟩ : ∃ b o, ad9 = some ⟨b, o, none⟩ ∧ w9.cell? ⟨b, o + i, none⟩ = some (.string (bs x)) := by
              rcases hs9.out with h | ⟨b, o, h1, h2, h3⟩
              · rw [h] at hx; simp at hx
              · exact ⟨b, o, h1, h3 i x hx⟩
            subst had
            obtain ⟨hz1, hz2⟩ := HZ.out i x hx
            have tx := bs_toList x
            clear hx l1
            by_cases hif : i < f
            · have hx46 := hz1 hif
              have hDD : (x == [46, 46]) = true := by simpa using hx46
              have hd0 : ((d : Int) == 0) = true := beq_iff_eq.2 (by omega)
              have hd0' : (d : Int) = 0 := by omega
              have HU2 : Hid (u + 1 = min (i + 1) f ∧ d = i + 1 - f) := hid (by omega)
              clear hz1 hz2 hx46 hu hd HU
              go_wp2_with fail
              go_round
              case rel => exact ⟨i + 1, u + 1, d, by omega, by simp, by simp, rfl, by omega, by omega, HU2⟩
              case measure => simp [RowKit.intOf]; omega
            · have hDD := hz2 (by omega)
              have HU2 : Hid (u = min (i + 1) f ∧ d + 1 = i + 1 - f) := hid (by omega)
              clear hz1 hz2 hu hd HU
              go_wp2_with fail
              go_round
              case rel => exact ⟨i + 1, u, d + 1, by omega, by simp, rfl, by simp, by omega, by omega, HU2⟩
              case measure => simp [RowKit.intOf]; omega
          · obtain ⟨ef, eg⟩ := HFG.out
            have q1 : (u : Int) = (n : Int) - (k : Int) := by omega
            have q2 : (d : Int) = (mm : Int) - (k : Int) := by omega
            have q3 : ((u : Int) == (n : Int) - (k : Int)) = true := beq_iff_eq.2 q1
            have q4 : ((d : Int) == (mm : Int) - (k : Int)) = true := beq_iff_eq.2 q2
            clear hu hd HU ef eg q1 q2
            go_wp2_with fail
            go_ret
            exact ⟨by first | rfl | simp [*], b09⟩
      · have d1 : decide (k < n) = false := decide_eq_false c1
        have d1' : decide ((k : Int) < (n : Int)) = false := decide_eq_false (by omega)
        clear H hstr ef eg
        go_wp2_with fail
        go_quiet (fail)
        have b7 := b04.trans ((bb.drewN' nq).mono hw4)
        generalize wr.drewN nq = w7 at *
        go_wp2_with (first
          | (go_at_call 8; refine (KS.out _).mono ?_; rintro e w9 ⟨ad9, c9, rfl, hc9, hm9, hs9, b9⟩; have b09 := b08.trans (b9.mono b08.size))
          | (go_at_call 9; refine (KL.out _ b7).mono ?_; rintro e w8 ⟨rfl, b8⟩; have b08 := b7.trans (b8.mono b7.size)))
        go_loop [12, 13, 66] (fun t12 t13 t66 => ∃ (i u d : Nat), i ≤ f + g ∧ t66 = .int .i64 i ∧ t12 = .int .i64 u ∧ t13 = .int .i64 d ∧ u ≤ i ∧ d ≤ i ∧ Hid (u = min i f ∧ d = i - f)) (fun _ _ t => f + g - (RowKit.intOf t).toNat)
        case atStart => exact ⟨0, 0, 0, Nat.zero_le _, rfl, rfl, rfl, Nat.le_refl _, Nat.le_refl _, hid (by omega)⟩
        case round =>
          obtain ⟨i, u, d, hi, rfl, rfl, rfl, hui, hdi, HU⟩ := hrel
          obtain ⟨hu, hd⟩ := HU.out
          by_cases hlt2 : i < f + g
          · have l1 : i < Z.length := by rw [HZl.out]; exact hlt2
            obtain ⟨x, hx⟩ : ∃ x, Z[i]? = some x := ⟨Z[i], List.getElem?_eq_getElem _⟩
            obtain ⟨bz, oz, had, hcell⟩ : ∃ b o, ad9 = some ⟨b, o, none⟩ ∧ w9.cell? ⟨b, o + i, none⟩ = some (.string (bs x)) := by
              rcases hs9.out with h | ⟨b, o, h1, h2, h3⟩
              · rw [h] at hx; simp at hx
              · exact ⟨b, o, h1, h3 i x hx⟩
            subst had
            obtain ⟨hz1, hz2⟩ := HZ.out i x hx
            have tx := bs_toList x
            clear hx l1
            by_cases hif : i < f
            · have hx46 := hz1 hif
              have hDD : (x == [46, 46]) = true := by simpa using hx46
              have hd0 : ((d : Int) == 0) = true := beq_iff_eq.2 (by omega)
              have hd0' : (d : Int) = 0 := by omega
              have HU2 : Hid (u + 1 = min (i + 1) f ∧ d = i + 1 - f) := hid (by omega)
              clear hz1 hz2 hx46 hu hd HU
              go_wp2_with fail
              go_round
              case rel => exact ⟨i + 1, u + 1, d, by omega, by simp, by simp, rfl, by omega, by omega, HU2⟩
              case measure => simp [RowKit.intOf]; omega
            · have hDD := hz2 (by omega)
              have HU2 : Hid (u = min (i + 1) f ∧ d + 1 = i + 1 - f) := hid (by omega)
              clear hz1 hz2 hu hd HU
              go_wp2_with fail
              go_round
              case rel => exact ⟨i + 1, u, d + 1, by omega, by simp, rfl, by simp, by omega, by omega, HU2⟩
              case measure => simp [RowKit.intOf]; omega
          · obtain ⟨ef, eg⟩ := HFG.out
            have q1 : (u : Int) = (n : Int) - (k : Int) := by omega
            have q2 : (d : Int) = (mm : Int) - (k : Int) := by omega
            have q3 : ((u : Int) == (n : Int) - (k : Int)) = true := beq_iff_eq.2 q1
            have q4 : ((d : Int) == (mm : Int) - (k : Int)) = true := beq_iff_eq.2 q2
            clear hu hd HU ef eg q1 q2
            go_wp2_with fail
            go_ret
            exact ⟨by first | rfl | simp [*], b09⟩

set_option maxHeartbeats 1000000 in
theorem walk_out (l m : List UInt8) (hl : l.length ≤ 9223372036854775807) (hl2 : m.length ≤ 9223372036854775807) (w : World) (hm : Ml w) (h : okP l = false ∨ okP m = false) :
    Calls Tryd.prog 3 #[.string (bs l), .string (bs m)] w fun e w' => e = .returned (.bool true) ∧ Below w.heap.size w w' := by
  have q0 := points_w w hm
  have KC1 : Hid (∀ W, Below w.heap.size w W → Calls Tryd.prog 6 #[.string (bs l)] W fun e w' => e = .returned (.tuple #[.string (bs (jn (cln l))), .bool (okP l)]) ∧ Below W.heap.size W w') := fun W hb => cleanp_w l hl W (hm.below hb)
  have KC2 : Hid (∀ W, Below w.heap.size w W → Calls Tryd.prog 6 #[.string (bs m)] W fun e w' => e = .returned (.tuple #[.string (bs (jn (cln m))), .bool (okP m)]) ∧ Below W.heap.size W w') := fun W hb => cleanp_w m hl2 W (hm.below hb)
  clear hm
  generalize jn (cln l) = D at *
  generalize jn (cln m) = T at *
  generalize okP l = p at *
  generalize hq : okP m = q at *
  clear hq
  cases p with
  | false =>
    clear h
    go_enter Tryd.func3, Tryd.ntmps3
    go_wp2_with (first
      | (go_at_call 6; refine (KC2.out _ b01).mono ?_; rintro e w2 ⟨rfl, b2⟩; have b02 := b01.trans (b2.mono b01.size))
      | (go_at_call 6; refine (KC1.out _ b00).mono ?_; rintro e w1 ⟨rfl, b1⟩; have b01 := b00.trans (b1.mono b00.size))
      | (go_at_call 5; refine q0.mono ?_; rintro e w0 ⟨rfl, b00⟩))
    go_ret
    exact ⟨rfl, b02⟩
  | true =>
    obtain rfl : q = false := by simpa using h
    go_enter Tryd.func3, Tryd.ntmps3
    go_wp2_with (first
      | (go_at_call 6; refine (KC2.out _ b01).mono ?_; rintro e w2 ⟨rfl, b2⟩; have b02 := b01.trans (b2.mono b01.size))
      | (go_at_call 6; refine (KC1.out _ b00).mono ?_; rintro e w1 ⟨rfl, b1⟩; have b01 := b00.trans (b1.mono b00.size))
      | (go_at_call 5; refine q0.mono ?_; rintro e w0 ⟨rfl, b00⟩))
    go_ret
    exact ⟨rfl, b02⟩

theorem walk (s t : ByteArray) (w : World) (hm : Ml w) (hs : s.size ≤ maxLen) (hs2 : t.size ≤ maxLen) :
    Calls Tryd.prog 3 #[.string s, .string t] w fun e w' => e = .returned (.bool true) ∧ Below w.heap.size w w' := by
  rw [bs_of s] at hs ⊢
  rw [bs_of t] at hs2 ⊢
  rw [bs_size] at hs hs2
  unfold maxLen at hs hs2
  generalize s.data.toList = l at *
  generalize t.data.toList = m at *
  cases h1 : okP l with
  | false => exact walk_out l m hs hs2 w hm (.inl h1)
  | true =>
    cases h2 : okP m with
    | false => exact walk_out l m hs hs2 w hm (.inr h2)
    | true => exact walk_in l m hs hs2 w hm h1 h2

set_option maxRecDepth 100000 in
theorem lifted (os : Os) (started : os.Started) (H : Type) (enc : TypeId × Value → H) :
    ReturnsInHanded {} Tryd.checked os 3 .any (fun w args => (Rows.targetShortSpec.pre enc Tryd.prog Tryd.f3 [] false w args ∧ laidMetH Tryd.prog two w) ∧ sizedMet enc Tryd.prog Tryd.f3 (OpenSpec.ofChange Rows.targetShortSpec) false w args)
      (Rows.targetShortSpec.post enc Tryd.prog Tryd.f3 false true false false) := by
  refine handed_shaped (C := Tryd.checked) (X := fun w _ => laidMetH Tryd.prog two w) (fun _ _ _ hh h => h.of_heap hh) own started (by kernel_rfl) Tryd.func3
    (ChangeSpec.witness_at (enc := enc) (C := Tryd.checked) (os := os) (X := fun w _ => laidMetH Tryd.prog two w) false
      (start os)
      #[.string ⟨#[]⟩, .string ⟨#[]⟩] 8 rfl (by kernel_rfl) (by kernel_rfl) (by kernel_rfl) (by kernel_rfl) (by kernel_rfl) (laidMet_of_run' 8 (by kernel_rfl) (by kernel_rfl))) ?_
  intro W base args ds gs before hval0 hW hsz hsh
  have hval : ∀ (j : Nat) t v, Tryd.f3.params[j]? = some t → args[j]? = some v → Value.okWide Tryd.prog W .any base t v := hval0
  have hW' := hW
  obtain ⟨p, q, hA0, hV0, rfl, hfz, hnd⟩ := hW
  have hA : DataW.TrodAll enc Tryd.prog W 0 (fun _ => true) true Tryd.f3.params.toList args.toList ds p := hA0
  have hV : DataW.TrodVars enc Tryd.prog W (fun _ => true) [] gs q := hV0
  rw [Tryd.params3] at hA hval
  obtain ⟨v0, vs0, d0, ds0, p0, q0, hargs, rfl, rfl, h0, r0⟩ := trodAll_cons hA
  obtain ⟨v1, vs1, d1, ds1, p1, q1, rfl, rfl, rfl, h1, r1⟩ := trodAll_cons r0
  obtain ⟨rfl, rfl, rfl⟩ := trodAll_nil r1
  obtain rfl : args = #[v0, v1] := by cases args; simp_all
  obtain ⟨rfl, rfl⟩ : gs = [] ∧ q = [] := by
    cases gs with
    | nil => exact ⟨rfl, hV⟩
    | cons g r => exact absurd hV (by intro h; cases h)
  obtain ⟨s0, rfl, rfl, rfl, m0⟩ := Go.ChangeMaps.open_string Tryd.underlying9 (hval 0 9 v0 rfl rfl) h0
  obtain ⟨s1, rfl, rfl, rfl, m1⟩ := Go.ChangeMaps.open_string Tryd.underlying9 (hval 1 9 v1 rfl rfl) h1
  clear hA0 hval0
  refine (walk s0 s1 W (shaped hsh) m0 m1).mono fun e W' ⟨he, st⟩ => ?_
  subst he
  exact ⟨_, rfl, _, _, _, [], _, [], hW', trodAll_mk1 (shut_bool Tryd.underlying4 _), (trodAll_cons_mk (Go.ChangeMaps.shut_string Tryd.underlying9 m0) (trodAll_cons_mk (Go.ChangeMaps.shut_string Tryd.underlying9 m1) trodAll_mk0)), rfl, st.frame _, fun h => by cases h⟩

theorem over : Rows.TargetShortSaid :=
  OpenClaim.holds_of_wide 3 Tryd.f3 rfl rfl rfl rfl rfl rfl rfl ⟨rfl, rfl, rfl, rfl, rfl⟩ rfl rfl rfl rfl rfl (by kernel_rfl) Tryd.func3 (by kernel_rfl)
    (of_decide_eq_true (by kernel_rfl)) (by unfold Func.isWrapper; rw [if_neg (of_decide_eq_false (by kernel_rfl))]; exact ⟨rfl, rfl⟩)
    (fun os started H enc _ => lifted os started H enc)

theorem carded : Rows.TargetShortCardSaid :=
  Claim7.holds_tied_plain_at .later [] _ _ _ _
    over (fun _ h => by cases h) (by kernel_rfl) (fun _ h => by cases h) targetShort_row_tie rfl ⟨rfl, rfl⟩ (by kernel_rfl) rfl
    (fun f fn hf hfn => by
      obtain rfl : f = 3 := Option.some.inj ((show Tryd.prog.funcNamed Tryd.f3.name = some 3 by kernel_rfl).symm.trans hf) |>.symm
      obtain rfl : fn = Tryd.f3 := (Option.some.inj (Tryd.func3.symm.trans hfn)).symm
      refine ⟨by kernel_rfl, fun j t ht => ?_⟩
      have hall : ∀ t ∈ Tryd.f3.params, Tryd.prog.wantsStandIn t = false := by
        rw [Tryd.params3]
        intro t ht
        simp at ht
        subst ht; kernel_rfl
      exact hall t (Array.mem_of_getElem? ht))
    (by kernel_rfl)

end Go.Proofs.YtmeaiplinkodiacDoor.targetShort
namespace Go.Proofs.YtmeaiplinkodiacDoor
theorem targetShort_holds : Rows.TargetShortCardSaid := targetShort.carded
#print axioms targetShort_holds
end Go.Proofs.YtmeaiplinkodiacDoor
