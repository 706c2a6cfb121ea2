/-
  The card of the law PathDots holds: it returns true for every input, the variables of the library that it lists being as the program text lays them.
-/
import Derived.Test.YtmeaiplinkodiaaDoorLaid
import Derived.Test.YtmeaiplinkodiaaDoorCards
import Derived.Test.YtmeaiplinkodiaaDoorTie
namespace Go.Proofs.YtmeaiplinkodiaaDoor.pathDots
open Go.ChangeShapes Go.WideShapes Go.RowKit
set_option linter.unusedVariables false
set_option linter.unusedSimpArgs false

theorem badOf_app : ∀ (a b : List (List UInt8)), badOf a = 0 → badOf (a ++ b) = badOf b
  | [], b, _ => rfl
  | p :: r, b, h => by
    have h' := (badOf_zero (p :: r)).1 h
    have hr : badOf r = 0 := (badOf_zero r).2 fun x hx => h' x (by simp [hx])
    rw [List.cons_append, badOf]
    by_cases k : keep p = false
    · rw [if_pos k]; exact badOf_app r b hr
    · rw [if_neg k]
      have := h' p (by simp) (by simpa using k)
      rw [if_neg this.1, if_neg (by omega)]
      exact badOf_app r b hr

theorem spl_of_good (ps : List (List UInt8)) (h : ∀ p ∈ ps, Good p) : (∀ p ∈ spl (jn ps), Snd p) ∧ badOf (spl (jn ps)) = 0 := by
  cases ps with
  | nil => exact ⟨fun p hp => by rw [jn_nil, spl_nil] at hp; simp at hp; subst hp; exact ⟨by decide, by decide, by decide⟩, by decide⟩
  | cons p r =>
    rw [spl_jn _ (by simp) fun x hx => (h x hx).snd.1]
    exact ⟨fun x hx => (h x hx).snd, badOf_good _ h⟩

theorem head_jn (p : List UInt8) (P : List UInt8) : p ++ 47 :: P = jn (p :: spl P) := by
  cases h : spl P with
  | nil => exact absurd h (spl_ne P)
  | cons q r => rw [jn_cons, ← h, jn_spl]

theorem dots1 (ps : List (List UInt8)) (h : ∀ p ∈ ps, Good p) (hl : (jn ps).length ≤ 1000) : err ([46, 46, 47] ++ jn ps) = 104 := by
  obtain ⟨h1, h2⟩ := spl_of_good ps h
  have e : [46, 46, 47] ++ jn ps = jn ([46, 46] :: spl (jn ps)) := by rw [← head_jn]; rfl
  have hs : ∀ x ∈ [46, 46] :: spl (jn ps), Snd x := fun x hx => by
    rcases List.mem_cons.1 hx with rfl | hx
    · exact good_up
    · exact h1 x hx
  have s : snd0 (jn ([46, 46] :: spl (jn ps))) = 0 := snd_jn _ _ (by simp) hs (by rw [← e]; simp; omega)
  rw [e, err, s, spl_jn _ (by simp) fun x hx => (hs x hx).1]
  simp [badOf, keep]

theorem dots2 (ps : List (List UInt8)) (h : ∀ p ∈ ps, Good p) (hl : (jn ps).length ≤ 1000) : err ([46, 47] ++ jn ps ++ [47, 46, 46]) = 104 := by
  obtain ⟨h1, h2⟩ := spl_of_good ps h
  have e : [46, 47] ++ jn ps ++ [47, 46, 46] = jn ([46] :: (spl (jn ps) ++ [[46, 46]])) := by
    have e1 : jn (spl (jn ps) ++ [[46, 46]]) = jn ps ++ 47 :: [46, 46] := by rw [jn_append _ _ (spl_ne _) (by simp), jn_spl, jn_one]
    cases hh : spl (jn ps) ++ [[46, 46]] with
    | nil => simp at hh
    | cons q r => rw [jn_cons, ← hh, e1]; simp
  have hs : ∀ x ∈ [46] :: (spl (jn ps) ++ [[46, 46]]), Snd x := fun x hx => by
    rcases List.mem_cons.1 hx with rfl | hx
    · exact good_dot
    · rcases List.mem_append.1 hx with hx | hx
      · exact h1 x hx
      · simp at hx; subst hx; exact good_up
  have s : snd0 (jn ([46] :: (spl (jn ps) ++ [[46, 46]]))) = 0 := snd_jn _ _ (by simp) hs (by rw [← e]; simp; omega)
  rw [e, err, s, spl_jn _ (by simp) fun x hx => (hs x hx).1]
  have : badOf ([46] :: (spl (jn ps) ++ [[46, 46]])) = badOf (spl (jn ps) ++ [[46, 46]]) := by simp [badOf, keep]
  rw [this, badOf_app _ _ h2]
  decide

theorem dots3 (ps : List (List UInt8)) (h : ∀ p ∈ ps, Good p) (hl : (jn ps).length ≤ 1000) : err ([120, 46, 46, 121, 47] ++ jn ps) = 0 := by
  obtain ⟨h1, h2⟩ := spl_of_good ps h
  have e : [120, 46, 46, 121, 47] ++ jn ps = jn ([120, 46, 46, 121] :: spl (jn ps)) := by rw [← head_jn]; rfl
  have hs : ∀ x ∈ [120, 46, 46, 121] :: spl (jn ps), Snd x := fun x hx => by
    rcases List.mem_cons.1 hx with rfl | hx
    · exact ⟨by decide, by decide, by decide⟩
    · exact h1 x hx
  have s : snd0 (jn ([120, 46, 46, 121] :: spl (jn ps))) = 0 := snd_jn _ _ (by simp) hs (by rw [← e]; simp; omega)
  rw [e, err, s, spl_jn _ (by simp) fun x hx => (hs x hx).1]
  simp [badOf, keep, h2]

theorem cat1 (P : List UInt8) : (⟨#[46, 46, 47]⟩ : ByteArray) ++ bs P = bs ([46, 46, 47] ++ P) := bs_app _ _
theorem cat2 (P : List UInt8) : (⟨#[46, 47]⟩ : ByteArray) ++ bs P = bs ([46, 47] ++ P) := bs_app _ _
theorem cat3 (P : List UInt8) : bs P ++ (⟨#[47, 46, 46]⟩ : ByteArray) = bs (P ++ [47, 46, 46]) := bs_app _ _
theorem cat4 (P : List UInt8) : (⟨#[120, 46, 46, 121, 47]⟩ : ByteArray) ++ bs P = bs ([120, 46, 46, 121, 47] ++ P) := bs_app _ _

set_option maxHeartbeats 2000000 in
theorem walk_in (l more : List UInt8) (w : World) (hm : Ml w) (h0 : err l = 0) (h1 : l.length ≤ 1000) (h2 : more.length ≤ 100) :
    Calls Tryd.prog 8 #[.string (bs l), .string (bs more)] w fun e w' => e = .returned (.bool true) ∧ Below w.heap.size w w' := by
  have q0 := cleans_w w hm
  have HQ : Hid (∀ x : List UInt8, x.length ≤ 4000 → ∀ W, Below w.heap.size w W → Calls Tryd.prog 10 #[.string (bs x)] W fun e w' => ∃ ad c, e = .returned (.tuple #[.slice ad (cln x).length c, .int .i64 (err x)]) ∧ (cln x).length ≤ c ∧ c ≤ 9223372036854775807 ∧ Hid (Sl w' ad (cln x)) ∧ Below W.heap.size W w') := fun x hx W hb => clean_sl x (by omega) W (hm.below hb)
  have hg : ∀ p ∈ cln l, Good p := by unfold cln; rw [if_pos h0]; exact parts_good l h0
  have hjl : (jn (cln l)).length ≤ 1000 := by unfold cln; rw [if_pos h0]; have := jn_parts_length l; omega
  have hcl : 2 * (cln l).length ≤ (jn (cln l)).length + 1 := jn_len_count _ fun p hp => (hg p hp).1
  have d1 := dots1 _ hg hjl
  have d2 := dots2 _ hg hjl
  have d3 := dots3 _ hg hjl
  have HJ : Hid (∀ W ad c, Sl W ad (cln l) → (cln l).length ≤ c → Calls Tryd.prog 15 #[.slice ad (cln l).length c] W fun e w' => e = .returned (.string (bs (jn (cln l)))) ∧ Below W.heap.size W w') := fun W ad c hs hc => join_w ad c (cln l) W hs hc (by omega) (by omega)
  have z1 := bs_size l
  have z2 := bs_size more
  have HQ1 := HQ.out l (by omega)
  have HQ2 := HQ.out ([46, 46, 47] ++ jn (cln l)) (by simp; omega)
  have HQ3 := HQ.out ([46, 47] ++ jn (cln l) ++ [47, 46, 46]) (by simp; omega)
  have HQ4 := HQ.out ([120, 46, 46, 121, 47] ++ jn (cln l)) (by simp; omega)
  rw [h0] at HQ1
  rw [d1] at HQ2
  rw [d2] at HQ3
  rw [d3] at HQ4
  have k1 := cat1 (jn (cln l))
  have k2 := cat2 (jn (cln l))
  have k3 := cat3 ([46, 47] ++ jn (cln l))
  have k4 := cat4 (jn (cln l))
  have y1 : (bs (jn (cln l))).size ≤ 1000 := by rw [bs_size]; exact hjl
  have y2 : (bs ([46, 47] ++ jn (cln l))).size ≤ 1002 := by rw [bs_size]; simp; omega
  generalize jn (cln l) = P at *
  generalize [46, 46, 47] ++ P = A1 at *
  generalize [46, 47] ++ P ++ [47, 46, 46] = A2 at *
  generalize [46, 47] ++ P = A5 at *
  generalize [120, 46, 46, 121, 47] ++ P = A3 at *
  have KQ1 : Hid _ := HQ1
  have KQ2 : Hid _ := HQ2
  have KQ3 : Hid _ := HQ3
  have KQ4 : Hid _ := HQ4
  clear HQ HQ1 HQ2 HQ3 HQ4 hm hg d1 d2 d3 h0
  generalize (cln l).length = n at *
  go_enter Tryd.func8, Tryd.ntmps8
  go_wp2_with (first
    | (go_at_call 10; refine (KQ4.out _ b04).mono ?_; rintro e w5 ⟨ad4, c4, rfl, hc4, hm4, hs4, b5⟩; have b05 := b04.trans (b5.mono b04.size))
    | (go_at_call 10; refine (KQ3.out _ b03).mono ?_; rintro e w4 ⟨ad3, c3, rfl, hc3, hm3, hs3, b4⟩; have b04 := b03.trans (b4.mono b03.size))
    | (go_at_call 10; refine (KQ2.out _ b02).mono ?_; rintro e w3 ⟨ad2, c2, rfl, hc2, hm2, hs2, b3⟩; have b03 := b02.trans (b3.mono b02.size))
    | (go_at_call 15; refine (HJ.out _ _ _ hs1.out hc1).mono ?_; rintro e w2 ⟨rfl, b2⟩; have b02 := b01.trans (b2.mono b01.size))
    | (go_at_call 10; refine (KQ1.out _ b00).mono ?_; rintro e w1 ⟨ad1, c1, rfl, hc1, hm1, hs1, b1⟩; have b01 := b00.trans (b1.mono b00.size))
    | (go_at_call 9; refine q0.mono ?_; rintro e w0 ⟨rfl, b00⟩))
  go_ret
  exact ⟨rfl, b05⟩

set_option maxHeartbeats 1000000 in
theorem walk_out (l more : List UInt8) (w : World) (hm : Ml w) (hl : l.length ≤ 9223372036854775807) (hl2 : more.length ≤ 9223372036854775807) (h : err l ≠ 0 ∨ 1000 < l.length ∨ 100 < more.length) :
    Calls Tryd.prog 8 #[.string (bs l), .string (bs more)] w fun e w' => e = .returned (.bool true) ∧ Below w.heap.size w w' := by
  have q0 := cleans_w w hm
  have KQ1 : Hid (∀ W, Below w.heap.size w W → Calls Tryd.prog 10 #[.string (bs l)] W fun e w' => ∃ ad c, e = .returned (.tuple #[.slice ad (cln l).length c, .int .i64 (err l)]) ∧ (cln l).length ≤ c ∧ c ≤ 9223372036854775807 ∧ Hid (Sl w' ad (cln l)) ∧ Below W.heap.size W w') := fun W hb => clean_sl l hl W (hm.below hb)
  have z1 := bs_size l
  have z2 := bs_size more
  clear hm
  generalize (cln l).length = n at *
  generalize err l = z at *
  by_cases c1 : z = 0
  · subst c1
    by_cases c2 : 1000 < l.length
    · go_enter Tryd.func8, Tryd.ntmps8
      go_wp2_with (first
        | (go_at_call 10; refine (KQ1.out _ b00).mono ?_; rintro e w1 ⟨ad1, c1, rfl, hc1, hm1, hs1, b1⟩; have b01 := b00.trans (b1.mono b00.size))
        | (go_at_call 9; refine q0.mono ?_; rintro e w0 ⟨rfl, b00⟩))
      go_ret
      exact ⟨rfl, b01⟩
    · have c3 : 100 < more.length := by omega
      go_enter Tryd.func8, Tryd.ntmps8
      go_wp2_with (first
        | (go_at_call 10; refine (KQ1.out _ b00).mono ?_; rintro e w1 ⟨ad1, c1, rfl, hc1, hm1, hs1, b1⟩; have b01 := b00.trans (b1.mono b00.size))
        | (go_at_call 9; refine q0.mono ?_; rintro e w0 ⟨rfl, b00⟩))
      go_ret
      exact ⟨rfl, b01⟩
  · clear h
    go_enter Tryd.func8, Tryd.ntmps8
    go_wp2_with (first
      | (go_at_call 10; refine (KQ1.out _ b00).mono ?_; rintro e w1 ⟨ad1, c1, rfl, hc1, hm1, hs1, b1⟩; have b01 := b00.trans (b1.mono b00.size))
      | (go_at_call 9; refine q0.mono ?_; rintro e w0 ⟨rfl, b00⟩))
    go_ret
    exact ⟨rfl, b01⟩

theorem walk (s more : ByteArray) (w : World) (hm : Ml w) (hs : s.size ≤ maxLen) (hs2 : more.size ≤ maxLen) :
    Calls Tryd.prog 8 #[.string s, .string more] w fun e w' => e = .returned (.bool true) ∧ Below w.heap.size w w' := by
  rw [bs_of s] at hs ⊢
  rw [bs_of more] at hs2 ⊢
  rw [bs_size] at hs hs2
  unfold maxLen at hs hs2
  by_cases h : err s.data.toList = 0 ∧ s.data.toList.length ≤ 1000 ∧ more.data.toList.length ≤ 100
  · exact walk_in _ _ w hm h.1 h.2.1 h.2.2
  · exact walk_out _ _ w hm hs hs2 (by
      by_cases c : err s.data.toList = 0
      · by_cases c2 : 1000 < s.data.toList.length
        · exact .inr (.inl c2)
        · exact .inr (.inr (by
            have : ¬ more.data.toList.length ≤ 100 := fun e => h ⟨c, by omega, e⟩
            omega))
      · exact .inl c)

set_option maxRecDepth 100000 in
theorem lifted (os : Os) (started : os.Started) (H : Type) (enc : TypeId × Value → H) :
    ReturnsInHanded {} Tryd.checked os 8 .any (fun w args => (Rows.pathDotsSpec.pre enc Tryd.prog Tryd.f8 [] false w args ∧ laidMetH Tryd.prog two w) ∧ sizedMet enc Tryd.prog Tryd.f8 (OpenSpec.ofChange Rows.pathDotsSpec) false w args)
      (Rows.pathDotsSpec.post enc Tryd.prog Tryd.f8 false true false false) := by
  refine handed_shaped (C := Tryd.checked) (X := fun w _ => laidMetH Tryd.prog two w) (fun _ _ _ hh h => h.of_heap hh) own started (by kernel_rfl) Tryd.func8
    (ChangeSpec.witness_at (enc := enc) (C := Tryd.checked) (os := os) (X := fun w _ => laidMetH Tryd.prog two w) false
      (start os)
      #[.string ⟨#[]⟩, .string ⟨#[]⟩] 8 rfl (by kernel_rfl) (by kernel_rfl) (by kernel_rfl) (by kernel_rfl) (by kernel_rfl) (laidMet_of_run' 8 (by kernel_rfl) (by kernel_rfl))) ?_
  intro W base args ds gs before hval0 hW hsz hsh
  have hval : ∀ (j : Nat) t v, Tryd.f8.params[j]? = some t → args[j]? = some v → Value.okWide Tryd.prog W .any base t v := hval0
  have hW' := hW
  obtain ⟨p, q, hA0, hV0, rfl, hfz, hnd⟩ := hW
  have hA : DataW.TrodAll enc Tryd.prog W 0 (fun _ => true) true Tryd.f8.params.toList args.toList ds p := hA0
  have hV : DataW.TrodVars enc Tryd.prog W (fun _ => true) [] gs q := hV0
  rw [Tryd.params8] at hA hval
  obtain ⟨v0, vs0, d0, ds0, p0, q0, hargs, rfl, rfl, h0, r0⟩ := trodAll_cons hA
  obtain ⟨v1, vs1, d1, ds1, p1, q1, rfl, rfl, rfl, h1, r1⟩ := trodAll_cons r0
  obtain ⟨rfl, rfl, rfl⟩ := trodAll_nil r1
  obtain rfl : args = #[v0, v1] := by cases args; simp_all
  obtain ⟨rfl, rfl⟩ : gs = [] ∧ q = [] := by
    cases gs with
    | nil => exact ⟨rfl, hV⟩
    | cons g r => exact absurd hV (by intro h; cases h)
  obtain ⟨s0, rfl, rfl, rfl, m0⟩ := Go.ChangeMaps.open_string Tryd.underlying9 (hval 0 9 v0 rfl rfl) h0
  obtain ⟨s1, rfl, rfl, rfl, m1⟩ := Go.ChangeMaps.open_string Tryd.underlying9 (hval 1 9 v1 rfl rfl) h1
  clear hA0 hval0
  refine (walk s0 s1 W (shaped hsh) m0 m1).mono fun e W' ⟨he, st⟩ => ?_
  subst he
  exact ⟨_, rfl, _, _, _, [], _, [], hW', trodAll_mk1 (shut_bool Tryd.underlying4 _), (trodAll_cons_mk (Go.ChangeMaps.shut_string Tryd.underlying9 m0) (trodAll_cons_mk (Go.ChangeMaps.shut_string Tryd.underlying9 m1) trodAll_mk0)), rfl, st.frame _, fun h => by cases h⟩

theorem over : Rows.PathDotsSaid :=
  OpenClaim.holds_of_wide 8 Tryd.f8 rfl rfl rfl rfl rfl rfl rfl ⟨rfl, rfl, rfl, rfl, rfl⟩ rfl rfl rfl rfl rfl (by kernel_rfl) Tryd.func8 (by kernel_rfl)
    (of_decide_eq_true (by kernel_rfl)) (by unfold Func.isWrapper; rw [if_neg (of_decide_eq_false (by kernel_rfl))]; exact ⟨rfl, rfl⟩)
    (fun os started H enc _ => lifted os started H enc)

theorem carded : Rows.PathDotsCardSaid :=
  Claim7.holds_tied_plain_at .later [] _ _ _ _
    over (fun _ h => by cases h) (by kernel_rfl) (fun _ h => by cases h) pathDots_row_tie rfl ⟨rfl, rfl⟩ (by kernel_rfl) rfl
    (fun f fn hf hfn => by
      obtain rfl : f = 8 := Option.some.inj ((show Tryd.prog.funcNamed Tryd.f8.name = some 8 by kernel_rfl).symm.trans hf) |>.symm
      obtain rfl : fn = Tryd.f8 := (Option.some.inj (Tryd.func8.symm.trans hfn)).symm
      refine ⟨by kernel_rfl, fun j t ht => ?_⟩
      have hall : ∀ t ∈ Tryd.f8.params, Tryd.prog.wantsStandIn t = false := by
        rw [Tryd.params8]
        intro t ht
        simp at ht
        subst ht; kernel_rfl
      exact hall t (Array.mem_of_getElem? ht))
    (by kernel_rfl)

end Go.Proofs.YtmeaiplinkodiaaDoor.pathDots
namespace Go.Proofs.YtmeaiplinkodiaaDoor
theorem pathDots_holds : Rows.PathDotsCardSaid := pathDots.carded
#print axioms pathDots_holds
end Go.Proofs.YtmeaiplinkodiaaDoor
