/-
  The card of the law TargetInside holds: it returns true for every input, the variables of the library that it lists being as the program text lays them.
-/
import Derived.Test.YtmeaiplinkodiabDoorLaid
import Derived.Test.YtmeaiplinkodiabDoorCards
import Derived.Test.YtmeaiplinkodiabDoorTie
import Derived.Test.YtmeaiplinkodiabDoorRef2
import Derived.Test.YtmeaiplinkodiabDoorPl2
namespace Go.Proofs.YtmeaiplinkodiabDoor.targetInside
open Go.ChangeShapes Go.WideShapes Go.RowKit
set_option linter.unusedVariables false
set_option linter.unusedSimpArgs false

theorem stp_filter' : ∀ (S a : List (List UInt8)), stp a (S.filter keep) = stp a S
  | [], a => rfl
  | p :: r, a => by
    by_cases k : keep p = true
    · rw [List.filter_cons_of_pos k]
      simp only [stp]
      rw [stp_filter' r, stp_filter' r, stp_filter' r]
    · rw [List.filter_cons_of_neg k, stp_filter' r, stp_skip _ _ _ (by simpa using k)]

set_option maxHeartbeats 4000000 in
theorem walk_ok (l m : List UInt8) (hl : l.length ≤ 9223372036854775807) (hl2 : m.length ≤ 1000) (w : World) (hm : Ml w) (h1 : okP l = true) (hz : (rsv (jn (cln l)) m).2 = 0) :
    Calls Tryd.prog 5 #[.string (bs l), .string (bs m)] w fun e w' => e = .returned (.bool true) ∧ Below w.heap.size w w' := by
  have q0 := points_w w hm
  obtain ⟨g1, j1⟩ := ok_good l h1
  have KC1 : Hid (∀ W, Below w.heap.size w W → Calls Tryd.prog 12 #[.string (bs l)] W fun e w' => e = .returned (.tuple #[.string (bs (jn (cln l))), .bool true]) ∧ Below W.heap.size W w') := fun W hb => by
    have := cleanp_w l hl W (hm.below hb); rwa [h1] at this
  obtain ⟨r1, r2, r3, r4⟩ := rsv_ok (cln l) g1 m hz
  have hrl := stp_len (cln l) m
  have est := stp_filter' (spl m) (cln l)
  have KR1 : Hid (∀ W, Below w.heap.size w W → Calls Tryd.prog 13 #[.string (bs (jn (cln l))), .string (bs m)] W fun e w' => e = .returned (.tuple #[.string (bs (jn (stp (cln l) (spl m)).1)), .int .i64 0]) ∧ Below W.heap.size W w') := fun W hb => by
    have := resolve_w (jn (cln l)) m (by omega) (by omega) W (hm.below hb)
    rwa [r3] at this
  have KP : Hid (∀ W, Below w.heap.size w W → Calls Tryd.prog 15 #[.string (bs (jn (cln l)))] W fun e w' => ∃ ad, e = .returned (.slice ad (cln l).length (cln l).length) ∧ Hid (Sl w' ad (cln l)) ∧ Below W.heap.size W w') := fun W hb => by
    have := parts_w (jn (cln l)) (by omega) W (hm.below hb)
    rwa [prt_jn _ g1] at this
  have KS : Hid (∀ W, Calls Tryd.prog 16 #[.string (bs m)] W fun e w' => ∃ ad c, e = .returned (.slice ad (parts m).length c) ∧ (parts m).length ≤ c ∧ c ≤ 9223372036854775807 ∧ Hid (Sl w' ad (parts m)) ∧ Below W.heap.size W w') := fun W => rsplit_w m (by omega) W
  have hrn : 2 * (stp (cln l) (spl m)).1.length ≤ (jn (stp (cln l) (spl m)).1).length + 1 := jn_len_count _ fun p hp => (r4 p hp).1
  have hRL0 : (stp (cln l) (spl m)).1.length ≤ 1002 := by omega
  have KQ : Hid ((stp (cln l) (spl m)).1 ≠ [] → ∀ W, Below w.heap.size w W → Calls Tryd.prog 10 #[.string (bs (jn (stp (cln l) (spl m)).1))] W fun e w' => ∃ ad c, e = .returned (.tuple #[.slice ad (stp (cln l) (spl m)).1.length c, .int .i64 0]) ∧ (stp (cln l) (spl m)).1.length ≤ c ∧ c ≤ 9223372036854775807 ∧ Hid (Sl w' ad (stp (cln l) (spl m)).1) ∧ Below W.heap.size W w') := hid (fun hne W hb => by
    have ej : err (jn (stp (cln l) (spl m)).1) = 0 := err_jn _ hne r4 (by omega)
    have := clean_sl (jn (stp (cln l) (spl m)).1) (by omega) W (hm.below hb)
    rwa [ej, show cln (jn (stp (cln l) (spl m)).1) = (stp (cln l) (spl m)).1 by rw [cln, if_pos ej, parts_good_jn _ hne r4]] at this)
  have KJ : Hid (∀ W ad c, Sl W ad (stp (cln l) (spl m)).1 → (stp (cln l) (spl m)).1.length ≤ c → Calls Tryd.prog 17 #[.slice ad (stp (cln l) (spl m)).1.length c] W fun e w' => e = .returned (.string (bs (jn (stp (cln l) (spl m)).1))) ∧ Below W.heap.size W w') := fun W ad c hs hc => join_w ad c _ W hs hc (by omega) (by omega)
  have hcl : 2 * (cln l).length ≤ (jn (cln l)).length + 1 := jn_len_count _ fun p hp => (g1 p hp).1
  have hpl : (parts m).length ≤ 1001 := by have h1 := List.length_filter_le keep (spl m); have := spl_len_le m; unfold parts; omega
  have HK : Hid (∀ i x, (parts m)[i]? = some x → keep x = true) := hid (fun i x hx => (List.mem_filter.1 (List.mem_of_getElem? hx)).2)
  have HE : Hid ((stp (cln l) (spl m)).1 = [] → (jn (stp (cln l) (spl m)).1).isEmpty = true) := hid (fun e => by rw [e]; rfl)
  have HE2 : Hid ((stp (cln l) (spl m)).1 ≠ [] → (jn (stp (cln l) (spl m)).1).isEmpty = false) := hid (fun e => by
    cases hh : (stp (cln l) (spl m)).1 with
    | nil => exact absurd hh e
    | cons p r => have := jn_ne p r (r4 p (by rw [hh]; simp)).1; simpa using this)
  have tR := bs_toList (jn (stp (cln l) (spl m)).1)
  have z2 := bs_size m
  have HST : Hid (stp (cln l) (parts m) = ((stp (cln l) (spl m)).1, 0)) := hid (by rw [← r2]; exact est)
  have hDl : (cln l).length ≤ 1000 := by omega
  clear g1 hm h1 r1 r2 r3 r4 est hz hcl j1
  generalize (stp (cln l) (spl m)).1 = R at *
  generalize parts m = S at *
  generalize cln l = ps at *
  generalize hJ : jn R = J at *
  generalize jn ps = D at *
  generalize hn : ps.length = n at *
  generalize hNN : S.length = N at *
  have HN : Hid (S.length = N) := hNN
  clear hNN hJ hrl
  generalize hRL : R.length = L at *
  have HRL : Hid (R.length = L) := hRL
  clear hRL
  go_enter Tryd.func5, Tryd.ntmps5
  go_wp2_with (first
    | (go_at_call 16; refine (KS.out _).mono ?_; rintro e w4 ⟨ad4, c4, rfl, hc4, hm4, hs4, b4⟩; have b04 := b03.trans (b4.mono b03.size))
    | (go_at_call 15; refine (KP.out _ b02).mono ?_; rintro e w3 ⟨ad3, rfl, hs3, b3⟩; have b03 := b02.trans (b3.mono b02.size))
    | (go_at_call 13; refine (KR1.out _ b01).mono ?_; rintro e w2 ⟨rfl, b2⟩; have b02 := b01.trans (b2.mono b01.size))
    | (go_at_call 12; refine (KC1.out _ b00).mono ?_; rintro e w1 ⟨rfl, b1⟩; have b01 := b00.trans (b1.mono b00.size))
    | (go_at_call 11; refine q0.mono ?_; rintro e w0 ⟨rfl, b00⟩))
  clear KC1 KR1 KP KS q0
  go_loop [9, 44] (fun t9 t44 => ∃ (i k : Nat) (qs : List (List UInt8)), i ≤ N ∧ t44 = .int .i64 i ∧ t9 = .int .i64 k ∧ k ≤ 1000 + i ∧ Hid (qs.length = k ∧ stp qs (S.drop i) = (R, 0))) (fun _ t => N - (RowKit.intOf t).toNat)
  case atStart => exact ⟨0, n, ps, Nat.zero_le _, rfl, rfl, by omega, hid ⟨hn, by simpa using HST.out⟩⟩
  case round =>
    obtain ⟨i, k, qs, hi, rfl, rfl, hk, H⟩ := hrel
    obtain ⟨hq, hst⟩ := H.out
    by_cases hlt : i < N
    · have l1 : i < S.length := by rw [HN.out]; exact hlt
      obtain ⟨x, hx⟩ : ∃ x, S[i]? = some x := ⟨S[i], List.getElem?_eq_getElem _⟩
      obtain ⟨b, o, had, hcell⟩ : ∃ b o, ad4 = some ⟨b, o, none⟩ ∧ w4.cell? ⟨b, o + i, none⟩ = some (.string (bs x)) := by
        rcases hs4.out with h | ⟨b, o, h1, h2, h3⟩
        · rw [h] at hx; simp at hx
        · exact ⟨b, o, h1, h3 i x hx⟩
      subst had
      rw [badOf_step S i x hx] at hst
      have kk := HK.out i x hx
      have tx := bs_toList x
      clear hx l1
      by_cases d46 : x = [46, 46]
      · have hDD : (x == [46, 46]) = true := by simpa using d46
        subst d46
        by_cases hq0 : qs = []
        · exfalso
          rw [hq0, stp_out] at hst
          have := congrArg Prod.snd hst
          simp at this
        · rw [stp_ups _ _ hq0] at hst
          have hk1 : 1 ≤ k := by rw [← hq]; exact List.length_pos_iff.2 hq0
          obtain ⟨k', rfl⟩ : ∃ k', k = k' + 1 := ⟨k - 1, by omega⟩
          have H2 : Hid (qs.dropLast.length = k' ∧ stp qs.dropLast (S.drop (i + 1)) = (R, 0)) := hid ⟨by rw [List.length_dropLast, hq]; omega, hst⟩
          have hn0 : ¬ ((k' : Int) < 0) := by omega
          clear H hst hq kk hq0
          go_wp2_with fail
          go_round
          case rel => exact ⟨i + 1, k', qs.dropLast, by omega, by simp, rfl, by omega, H2⟩
          case measure => simp [RowKit.intOf]; omega
      · have hDD : (x == [46, 46]) = false := by simpa using d46
        by_cases g255 : 255 < x.length
        · exfalso
          rw [stp_long _ _ _ kk d46 g255] at hst
          have := congrArg Prod.snd hst
          simp at this
        · rw [stp_into _ _ _ kk d46 g255] at hst
          have H2 : Hid ((qs ++ [x]).length = k + 1 ∧ stp (qs ++ [x]) (S.drop (i + 1)) = (R, 0)) := hid ⟨by simp [hq], hst⟩
          have hn0 : ¬ ((k : Int) + 1 < 0) := by omega
          clear H hst hq kk
          go_wp2_with fail
          go_round
          case rel => exact ⟨i + 1, k + 1, qs ++ [x], by omega, by simp, by simp, by omega, H2⟩
          case measure => simp [RowKit.intOf]; omega
    · rw [List.drop_of_length_le (by rw [HN.out]; omega)] at hst
      have hqR : qs = R := by have := congrArg Prod.fst hst; simpa [stp] using this
      have hkL : k = L := by rw [← hq, hqR, HRL.out]
      clear H hst
      by_cases hR0 : R = []
      · have hE := HE.out hR0
        have hk0 : k = 0 := by rw [hkL, ← HRL.out, hR0]; rfl
        have g2 : ((k : Int) == 0) = true := beq_iff_eq.2 (by omega)
        have g3 : (k : Int) = 0 := by omega
        clear hq hqR hkL hR0 hk0 KQ
        go_wp2_with fail
        go_ret
        exact ⟨by first | rfl | simp, b04⟩
      · have hE := HE2.out hR0
        have KQ2 : Hid _ := KQ.out hR0
        rw [hkL]
        clear hq hqR hkL hR0 KQ
        go_wp2_with (first
          | (go_at_call 17; refine (KJ.out _ _ _ hs5.out hc5).mono ?_; rintro e w6 ⟨rfl, b6⟩; have b06 := b05.trans (b6.mono b05.size))
          | (go_at_call 10; refine (KQ2.out _ b04).mono ?_; rintro e w5 ⟨ad5, c5, rfl, hc5, hm5, hs5, b5⟩; have b05 := b04.trans (b5.mono b04.size)))
        go_ret
        exact ⟨by first | rfl | simp, b06⟩

set_option maxHeartbeats 1000000 in
theorem walk_no (l m : List UInt8) (hl : l.length ≤ 9223372036854775807) (hl2 : m.length ≤ 1000) (w : World) (hm : Ml w) (h1 : okP l = true) (hz : (rsv (jn (cln l)) m).2 ≠ 0) :
    Calls Tryd.prog 5 #[.string (bs l), .string (bs m)] w fun e w' => e = .returned (.bool true) ∧ Below w.heap.size w w' := by
  have q0 := points_w w hm
  obtain ⟨g1, j1⟩ := ok_good l h1
  have KC1 : Hid (∀ W, Below w.heap.size w W → Calls Tryd.prog 12 #[.string (bs l)] W fun e w' => e = .returned (.tuple #[.string (bs (jn (cln l))), .bool true]) ∧ Below W.heap.size W w') := fun W hb => by
    have := cleanp_w l hl W (hm.below hb); rwa [h1] at this
  have e1 := rsv_no _ _ hz
  have KR1 : Hid (∀ W, Below w.heap.size w W → Calls Tryd.prog 13 #[.string (bs (jn (cln l))), .string (bs m)] W fun e w' => e = .returned (.tuple #[.string (bs []), .int .i64 (rsv (jn (cln l)) m).2]) ∧ Below W.heap.size W w') := fun W hb => by
    have := resolve_w (jn (cln l)) m (by omega) (by omega) W (hm.below hb)
    rwa [e1] at this
  have tR := bs_toList []
  have z2 := bs_size m
  clear g1 hm h1 e1
  generalize (rsv (jn (cln l)) m).2 = z at *
  generalize jn (cln l) = D at *
  go_enter Tryd.func5, Tryd.ntmps5
  go_wp2_with (first
    | (go_at_call 13; refine (KR1.out _ b01).mono ?_; rintro e w2 ⟨rfl, b2⟩; have b02 := b01.trans (b2.mono b01.size))
    | (go_at_call 12; refine (KC1.out _ b00).mono ?_; rintro e w1 ⟨rfl, b1⟩; have b01 := b00.trans (b1.mono b00.size))
    | (go_at_call 11; refine q0.mono ?_; rintro e w0 ⟨rfl, b00⟩))
  go_ret
  exact ⟨rfl, b02⟩

set_option maxHeartbeats 1000000 in
theorem walk_out (l m : List UInt8) (hl : l.length ≤ 9223372036854775807) (hl2 : m.length ≤ 9223372036854775807) (w : World) (hm : Ml w) (h : okP l = false ∨ 1000 < m.length) :
    Calls Tryd.prog 5 #[.string (bs l), .string (bs m)] w fun e w' => e = .returned (.bool true) ∧ Below w.heap.size w w' := by
  have q0 := points_w w hm
  have KC1 : Hid (∀ W, Below w.heap.size w W → Calls Tryd.prog 12 #[.string (bs l)] W fun e w' => e = .returned (.tuple #[.string (bs (jn (cln l))), .bool (okP l)]) ∧ Below W.heap.size W w') := fun W hb => cleanp_w l hl W (hm.below hb)
  have z2 := bs_size m
  clear hm
  generalize jn (cln l) = D at *
  generalize okP l = p at *
  cases p with
  | false =>
    clear h
    go_enter Tryd.func5, Tryd.ntmps5
    go_wp2_with (first
      | (go_at_call 12; refine (KC1.out _ b00).mono ?_; rintro e w1 ⟨rfl, b1⟩; have b01 := b00.trans (b1.mono b00.size))
      | (go_at_call 11; refine q0.mono ?_; rintro e w0 ⟨rfl, b00⟩))
    go_ret
    exact ⟨rfl, b01⟩
  | true =>
    have h' : 1000 < m.length := by simpa using h
    clear h
    go_enter Tryd.func5, Tryd.ntmps5
    go_wp2_with (first
      | (go_at_call 12; refine (KC1.out _ b00).mono ?_; rintro e w1 ⟨rfl, b1⟩; have b01 := b00.trans (b1.mono b00.size))
      | (go_at_call 11; refine q0.mono ?_; rintro e w0 ⟨rfl, b00⟩))
    go_ret
    exact ⟨rfl, b01⟩

theorem walk (s t : ByteArray) (w : World) (hm : Ml w) (hs : s.size ≤ maxLen) (hs2 : t.size ≤ maxLen) :
    Calls Tryd.prog 5 #[.string s, .string t] w fun e w' => e = .returned (.bool true) ∧ Below w.heap.size w w' := by
  rw [bs_of s] at hs ⊢
  rw [bs_of t] at hs2 ⊢
  rw [bs_size] at hs hs2
  unfold maxLen at hs hs2
  generalize s.data.toList = l at *
  generalize t.data.toList = m at *
  cases h1 : okP l with
  | false => exact walk_out l m hs hs2 w hm (.inl h1)
  | true =>
    by_cases h2 : 1000 < m.length
    · exact walk_out l m hs hs2 w hm (.inr h2)
    · by_cases hz : (rsv (jn (cln l)) m).2 = 0
      · exact walk_ok l m hs (by omega) w hm h1 hz
      · exact walk_no l m hs (by omega) w hm h1 hz

set_option maxRecDepth 100000 in
theorem lifted (os : Os) (started : os.Started) (H : Type) (enc : TypeId × Value → H) :
    ReturnsInHanded {} Tryd.checked os 5 .any (fun w args => (Rows.targetInsideSpec.pre enc Tryd.prog Tryd.f5 [] false w args ∧ laidMetH Tryd.prog two w) ∧ sizedMet enc Tryd.prog Tryd.f5 (OpenSpec.ofChange Rows.targetInsideSpec) false w args)
      (Rows.targetInsideSpec.post enc Tryd.prog Tryd.f5 false true false false) := by
  refine handed_shaped (C := Tryd.checked) (X := fun w _ => laidMetH Tryd.prog two w) (fun _ _ _ hh h => h.of_heap hh) own started (by kernel_rfl) Tryd.func5
    (ChangeSpec.witness_at (enc := enc) (C := Tryd.checked) (os := os) (X := fun w _ => laidMetH Tryd.prog two w) false
      (start os)
      #[.string ⟨#[]⟩, .string ⟨#[]⟩] 8 rfl (by kernel_rfl) (by kernel_rfl) (by kernel_rfl) (by kernel_rfl) (by kernel_rfl) (laidMet_of_run' 8 (by kernel_rfl) (by kernel_rfl))) ?_
  intro W base args ds gs before hval0 hW hsz hsh
  have hval : ∀ (j : Nat) t v, Tryd.f5.params[j]? = some t → args[j]? = some v → Value.okWide Tryd.prog W .any base t v := hval0
  have hW' := hW
  obtain ⟨p, q, hA0, hV0, rfl, hfz, hnd⟩ := hW
  have hA : DataW.TrodAll enc Tryd.prog W 0 (fun _ => true) true Tryd.f5.params.toList args.toList ds p := hA0
  have hV : DataW.TrodVars enc Tryd.prog W (fun _ => true) [] gs q := hV0
  rw [Tryd.params5] at hA hval
  obtain ⟨v0, vs0, d0, ds0, p0, q0, hargs, rfl, rfl, h0, r0⟩ := trodAll_cons hA
  obtain ⟨v1, vs1, d1, ds1, p1, q1, rfl, rfl, rfl, h1, r1⟩ := trodAll_cons r0
  obtain ⟨rfl, rfl, rfl⟩ := trodAll_nil r1
  obtain rfl : args = #[v0, v1] := by cases args; simp_all
  obtain ⟨rfl, rfl⟩ : gs = [] ∧ q = [] := by
    cases gs with
    | nil => exact ⟨rfl, hV⟩
    | cons g r => exact absurd hV (by intro h; cases h)
  obtain ⟨s0, rfl, rfl, rfl, m0⟩ := Go.ChangeMaps.open_string Tryd.underlying9 (hval 0 9 v0 rfl rfl) h0
  obtain ⟨s1, rfl, rfl, rfl, m1⟩ := Go.ChangeMaps.open_string Tryd.underlying9 (hval 1 9 v1 rfl rfl) h1
  clear hA0 hval0
  refine (walk s0 s1 W (shaped hsh) m0 m1).mono fun e W' ⟨he, st⟩ => ?_
  subst he
  exact ⟨_, rfl, _, _, _, [], _, [], hW', trodAll_mk1 (shut_bool Tryd.underlying4 _), (trodAll_cons_mk (Go.ChangeMaps.shut_string Tryd.underlying9 m0) (trodAll_cons_mk (Go.ChangeMaps.shut_string Tryd.underlying9 m1) trodAll_mk0)), rfl, st.frame _, fun h => by cases h⟩

theorem over : Rows.TargetInsideSaid :=
  OpenClaim.holds_of_wide 5 Tryd.f5 rfl rfl rfl rfl rfl rfl rfl ⟨rfl, rfl, rfl, rfl, rfl⟩ rfl rfl rfl rfl rfl (by kernel_rfl) Tryd.func5 (by kernel_rfl)
    (of_decide_eq_true (by kernel_rfl)) (by unfold Func.isWrapper; rw [if_neg (of_decide_eq_false (by kernel_rfl))]; exact ⟨rfl, rfl⟩)
    (fun os started H enc _ => lifted os started H enc)

theorem carded : Rows.TargetInsideCardSaid :=
  Claim7.holds_tied_plain_at .later [] _ _ _ _
    over (fun _ h => by cases h) (by kernel_rfl) (fun _ h => by cases h) targetInside_row_tie rfl ⟨rfl, rfl⟩ (by kernel_rfl) rfl
    (fun f fn hf hfn => by
      obtain rfl : f = 5 := Option.some.inj ((show Tryd.prog.funcNamed Tryd.f5.name = some 5 by kernel_rfl).symm.trans hf) |>.symm
      obtain rfl : fn = Tryd.f5 := (Option.some.inj (Tryd.func5.symm.trans hfn)).symm
      refine ⟨by kernel_rfl, fun j t ht => ?_⟩
      have hall : ∀ t ∈ Tryd.f5.params, Tryd.prog.wantsStandIn t = false := by
        rw [Tryd.params5]
        intro t ht
        simp at ht
        subst ht; kernel_rfl
      exact hall t (Array.mem_of_getElem? ht))
    (by kernel_rfl)

end Go.Proofs.YtmeaiplinkodiabDoor.targetInside
namespace Go.Proofs.YtmeaiplinkodiabDoor
theorem targetInside_holds : Rows.TargetInsideCardSaid := targetInside.carded
#print axioms targetInside_holds
end Go.Proofs.YtmeaiplinkodiabDoor
