/-
  The card of the law TargetResolves holds: it returns true for every input, the variables of the library that it lists being as the program text lays them.
-/
import Derived.Test.YtmeaiplinkodiabDoorLaid
import Derived.Test.YtmeaiplinkodiabDoorCards
import Derived.Test.YtmeaiplinkodiabDoorTie
import Derived.Test.YtmeaiplinkodiabDoorRef11
namespace Go.Proofs.YtmeaiplinkodiabDoor.targetResolves
open Go.ChangeShapes Go.WideShapes Go.RowKit
set_option linter.unusedVariables false
set_option linter.unusedSimpArgs false

theorem parts_prt (ps : List (List UInt8)) (h : ∀ p ∈ ps, Good p) : parts (jn ps) = prt (jn ps) := by
  rw [prt_jn ps h]
  by_cases hne : ps = []
  · subst hne; decide
  · exact parts_good_jn ps hne h

set_option maxHeartbeats 2000000 in
theorem walk_in (l m : List UInt8) (hl : l.length ≤ 9223372036854775807) (hl2 : m.length ≤ 1000) (w : World) (hm : Ml w) (h1 : okP l = true) :
    Calls Tryd.prog 4 #[.string (bs l), .string (bs m)] w fun e w' => e = .returned (.bool true) ∧ Below w.heap.size w w' := by
  have q0 := points_w w hm
  obtain ⟨g1, j1⟩ := ok_good l h1
  have KC1 : Hid (∀ W, Below w.heap.size w W → Calls Tryd.prog 12 #[.string (bs l)] W fun e w' => e = .returned (.tuple #[.string (bs (jn (cln l))), .bool true]) ∧ Below W.heap.size W w') := fun W hb => by
    have := cleanp_w l hl W (hm.below hb); rwa [h1] at this
  have KR1 : Hid (∀ W, Below w.heap.size w W → Calls Tryd.prog 13 #[.string (bs (jn (cln l))), .string (bs m)] W fun e w' => e = .returned (.tuple #[.string (bs (rsv (jn (cln l)) m).1), .int .i64 (rsv (jn (cln l)) m).2]) ∧ Below W.heap.size W w') := fun W hb => resolve_w (jn (cln l)) m (by omega) (by omega) W (hm.below hb)
  have KR2 : Hid (∀ W, Calls Tryd.prog 14 #[.string (bs (jn (cln l))), .string (bs m)] W fun e w' => e = .returned (.tuple #[.string (bs (rsv (jn (cln l)) m).1), .int .i64 (rsv (jn (cln l)) m).2]) ∧ Below W.heap.size W w') := fun W => rres_w (jn (cln l)) m (by omega) (by omega) (parts_prt _ g1) W
  have tT := bs_toList (rsv (jn (cln l)) m).1
  have z2 := bs_size m
  clear g1 hm h1
  generalize (rsv (jn (cln l)) m).1 = R at *
  generalize (rsv (jn (cln l)) m).2 = z at *
  generalize jn (cln l) = D at *
  go_enter Tryd.func4, Tryd.ntmps4
  go_wp2_with (first
    | (go_at_call 14; refine (KR2.out _).mono ?_; rintro e w3 ⟨rfl, b3⟩; have b03 := b02.trans (b3.mono b02.size))
    | (go_at_call 13; refine (KR1.out _ b01).mono ?_; rintro e w2 ⟨rfl, b2⟩; have b02 := b01.trans (b2.mono b01.size))
    | (go_at_call 12; refine (KC1.out _ b00).mono ?_; rintro e w1 ⟨rfl, b1⟩; have b01 := b00.trans (b1.mono b00.size))
    | (go_at_call 11; refine q0.mono ?_; rintro e w0 ⟨rfl, b00⟩))
  go_ret
  exact ⟨rfl, b03⟩

set_option maxHeartbeats 1000000 in
theorem walk_out (l m : List UInt8) (hl : l.length ≤ 9223372036854775807) (hl2 : m.length ≤ 9223372036854775807) (w : World) (hm : Ml w) (h : okP l = false ∨ 1000 < m.length) :
    Calls Tryd.prog 4 #[.string (bs l), .string (bs m)] w fun e w' => e = .returned (.bool true) ∧ Below w.heap.size w w' := by
  have q0 := points_w w hm
  have KC1 : Hid (∀ W, Below w.heap.size w W → Calls Tryd.prog 12 #[.string (bs l)] W fun e w' => e = .returned (.tuple #[.string (bs (jn (cln l))), .bool (okP l)]) ∧ Below W.heap.size W w') := fun W hb => cleanp_w l hl W (hm.below hb)
  have z2 := bs_size m
  clear hm
  generalize jn (cln l) = D at *
  generalize okP l = p at *
  cases p with
  | false =>
    clear h
    go_enter Tryd.func4, Tryd.ntmps4
    go_wp2_with (first
      | (go_at_call 12; refine (KC1.out _ b00).mono ?_; rintro e w1 ⟨rfl, b1⟩; have b01 := b00.trans (b1.mono b00.size))
      | (go_at_call 11; refine q0.mono ?_; rintro e w0 ⟨rfl, b00⟩))
    go_ret
    exact ⟨rfl, b01⟩
  | true =>
    have h' : 1000 < m.length := by simpa using h
    clear h
    go_enter Tryd.func4, Tryd.ntmps4
    go_wp2_with (first
      | (go_at_call 12; refine (KC1.out _ b00).mono ?_; rintro e w1 ⟨rfl, b1⟩; have b01 := b00.trans (b1.mono b00.size))
      | (go_at_call 11; refine q0.mono ?_; rintro e w0 ⟨rfl, b00⟩))
    go_ret
    exact ⟨rfl, b01⟩

theorem walk (s t : ByteArray) (w : World) (hm : Ml w) (hs : s.size ≤ maxLen) (hs2 : t.size ≤ maxLen) :
    Calls Tryd.prog 4 #[.string s, .string t] w fun e w' => e = .returned (.bool true) ∧ Below w.heap.size w w' := by
  rw [bs_of s] at hs ⊢
  rw [bs_of t] at hs2 ⊢
  rw [bs_size] at hs hs2
  unfold maxLen at hs hs2
  generalize s.data.toList = l at *
  generalize t.data.toList = m at *
  cases h1 : okP l with
  | false => exact walk_out l m hs hs2 w hm (.inl h1)
  | true =>
    by_cases h2 : 1000 < m.length
    · exact walk_out l m hs hs2 w hm (.inr h2)
    · exact walk_in l m hs (by omega) w hm h1

set_option maxRecDepth 100000 in
theorem lifted (os : Os) (started : os.Started) (H : Type) (enc : TypeId × Value → H) :
    ReturnsInHanded {} Tryd.checked os 4 .any (fun w args => (Rows.targetResolvesSpec.pre enc Tryd.prog Tryd.f4 [] false w args ∧ laidMetH Tryd.prog two w) ∧ sizedMet enc Tryd.prog Tryd.f4 (OpenSpec.ofChange Rows.targetResolvesSpec) false w args)
      (Rows.targetResolvesSpec.post enc Tryd.prog Tryd.f4 false true false false) := by
  refine handed_shaped (C := Tryd.checked) (X := fun w _ => laidMetH Tryd.prog two w) (fun _ _ _ hh h => h.of_heap hh) own started (by kernel_rfl) Tryd.func4
    (ChangeSpec.witness_at (enc := enc) (C := Tryd.checked) (os := os) (X := fun w _ => laidMetH Tryd.prog two w) false
      (start os)
      #[.string ⟨#[]⟩, .string ⟨#[]⟩] 8 rfl (by kernel_rfl) (by kernel_rfl) (by kernel_rfl) (by kernel_rfl) (by kernel_rfl) (laidMet_of_run' 8 (by kernel_rfl) (by kernel_rfl))) ?_
  intro W base args ds gs before hval0 hW hsz hsh
  have hval : ∀ (j : Nat) t v, Tryd.f4.params[j]? = some t → args[j]? = some v → Value.okWide Tryd.prog W .any base t v := hval0
  have hW' := hW
  obtain ⟨p, q, hA0, hV0, rfl, hfz, hnd⟩ := hW
  have hA : DataW.TrodAll enc Tryd.prog W 0 (fun _ => true) true Tryd.f4.params.toList args.toList ds p := hA0
  have hV : DataW.TrodVars enc Tryd.prog W (fun _ => true) [] gs q := hV0
  rw [Tryd.params4] at hA hval
  obtain ⟨v0, vs0, d0, ds0, p0, q0, hargs, rfl, rfl, h0, r0⟩ := trodAll_cons hA
  obtain ⟨v1, vs1, d1, ds1, p1, q1, rfl, rfl, rfl, h1, r1⟩ := trodAll_cons r0
  obtain ⟨rfl, rfl, rfl⟩ := trodAll_nil r1
  obtain rfl : args = #[v0, v1] := by cases args; simp_all
  obtain ⟨rfl, rfl⟩ : gs = [] ∧ q = [] := by
    cases gs with
    | nil => exact ⟨rfl, hV⟩
    | cons g r => exact absurd hV (by intro h; cases h)
  obtain ⟨s0, rfl, rfl, rfl, m0⟩ := Go.ChangeMaps.open_string Tryd.underlying9 (hval 0 9 v0 rfl rfl) h0
  obtain ⟨s1, rfl, rfl, rfl, m1⟩ := Go.ChangeMaps.open_string Tryd.underlying9 (hval 1 9 v1 rfl rfl) h1
  clear hA0 hval0
  refine (walk s0 s1 W (shaped hsh) m0 m1).mono fun e W' ⟨he, st⟩ => ?_
  subst he
  exact ⟨_, rfl, _, _, _, [], _, [], hW', trodAll_mk1 (shut_bool Tryd.underlying4 _), (trodAll_cons_mk (Go.ChangeMaps.shut_string Tryd.underlying9 m0) (trodAll_cons_mk (Go.ChangeMaps.shut_string Tryd.underlying9 m1) trodAll_mk0)), rfl, st.frame _, fun h => by cases h⟩

theorem over : Rows.TargetResolvesSaid :=
  OpenClaim.holds_of_wide 4 Tryd.f4 rfl rfl rfl rfl rfl rfl rfl ⟨rfl, rfl, rfl, rfl, rfl⟩ rfl rfl rfl rfl rfl (by kernel_rfl) Tryd.func4 (by kernel_rfl)
    (of_decide_eq_true (by kernel_rfl)) (by unfold Func.isWrapper; rw [if_neg (of_decide_eq_false (by kernel_rfl))]; exact ⟨rfl, rfl⟩)
    (fun os started H enc _ => lifted os started H enc)

theorem carded : Rows.TargetResolvesCardSaid :=
  Claim7.holds_tied_plain_at .later [] _ _ _ _
    over (fun _ h => by cases h) (by kernel_rfl) (fun _ h => by cases h) targetResolves_row_tie rfl ⟨rfl, rfl⟩ (by kernel_rfl) rfl
    (fun f fn hf hfn => by
      obtain rfl : f = 4 := Option.some.inj ((show Tryd.prog.funcNamed Tryd.f4.name = some 4 by kernel_rfl).symm.trans hf) |>.symm
      obtain rfl : fn = Tryd.f4 := (Option.some.inj (Tryd.func4.symm.trans hfn)).symm
      refine ⟨by kernel_rfl, fun j t ht => ?_⟩
      have hall : ∀ t ∈ Tryd.f4.params, Tryd.prog.wantsStandIn t = false := by
        rw [Tryd.params4]
        intro t ht
        simp at ht
        subst ht; kernel_rfl
      exact hall t (Array.mem_of_getElem? ht))
    (by kernel_rfl)

end Go.Proofs.YtmeaiplinkodiabDoor.targetResolves
namespace Go.Proofs.YtmeaiplinkodiabDoor
theorem targetResolves_holds : Rows.TargetResolvesCardSaid := targetResolves.carded
#print axioms targetResolves_holds
end Go.Proofs.YtmeaiplinkodiabDoor
