/-
  The card of the law TargetUps holds: it returns true for every input, the variables of the library that it lists being as the program text lays them.
-/
import Derived.Test.YtmeaiplinkodiabDoorLaid
import Derived.Test.YtmeaiplinkodiabDoorCards
import Derived.Test.YtmeaiplinkodiabDoorTie
namespace Go.Proofs.YtmeaiplinkodiabDoor.targetUps
open Go.ChangeShapes Go.WideShapes Go.RowKit
set_option linter.unusedVariables false
set_option linter.unusedSimpArgs false

theorem rsv_up (x : List (List UInt8)) (hx : ∀ p ∈ x, Good p) (k : Nat) (hk : 1 ≤ k) (h50 : k ≤ 50) (hle : k ≤ x.length) : rsv (jn x) (jn (List.replicate k [46, 46])) = (jn (x.take (x.length - k)), 0) := by
  have hs : ∀ p ∈ List.replicate k ([46, 46] : List UInt8), Snd p := fun p hp => by obtain ⟨_, rfl⟩ := List.mem_replicate.1 hp; exact good_up
  have hl := jn_len_up k
  obtain ⟨k', rfl⟩ : ∃ k', k = k' + 1 := ⟨k - 1, by omega⟩
  have h1 : snd0 (jn (List.replicate (k' + 1) [46, 46])) = 0 := by
    rw [List.replicate_succ] at hs hl ⊢
    exact snd_jn _ _ (by simp) hs (by omega)
  have h2 : spl (jn (List.replicate (k' + 1) [46, 46])) = List.replicate (k' + 1) [46, 46] := spl_jn _ (by simp [List.replicate_succ]) fun p hp => (hs p hp).1
  unfold rsv
  rw [h1, h2, prt_jn x hx, stp_up _ x hle]
  simp

theorem rsv_over (x : List (List UInt8)) (hx : ∀ p ∈ x, Good p) (k : Nat) (hk : 1 ≤ k) (h50 : k ≤ 50) (hle : x.length < k) : rsv (jn x) (jn (List.replicate k [46, 46])) = ([], 110) := by
  have hs : ∀ p ∈ List.replicate k ([46, 46] : List UInt8), Snd p := fun p hp => by obtain ⟨_, rfl⟩ := List.mem_replicate.1 hp; exact good_up
  have hl := jn_len_up k
  obtain ⟨k', rfl⟩ : ∃ k', k = k' + 1 := ⟨k - 1, by omega⟩
  have h1 : snd0 (jn (List.replicate (k' + 1) [46, 46])) = 0 := by
    rw [List.replicate_succ] at hs hl ⊢
    exact snd_jn _ _ (by simp) hs (by omega)
  have h2 : spl (jn (List.replicate (k' + 1) [46, 46])) = List.replicate (k' + 1) [46, 46] := spl_jn _ (by simp [List.replicate_succ]) fun p hp => (hs p hp).1
  unfold rsv
  rw [h1, h2, prt_jn x hx, stp_over _ x hle]
  simp

theorem dots_more (i : Nat) : bs (jn (List.replicate (i + 1) [46, 46])) ++ (⟨#[47, 46, 46]⟩ : ByteArray) = bs (jn (List.replicate (i + 2) [46, 46])) := by
  have e : jn (List.replicate (i + 2) [46, 46]) = jn (List.replicate (i + 1) [46, 46]) ++ [47, 46, 46] := by
    have : List.replicate (i + 2) ([46, 46] : List UInt8) = List.replicate (i + 1) [46, 46] ++ [[46, 46]] := by rw [show i + 2 = (i + 1) + 1 by omega, List.replicate_succ']
    rw [this, jn_append _ _ (by simp [List.replicate_succ]) (by simp), jn_one]
  rw [e]
  exact bs_app _ [47, 46, 46]

theorem Sl.take' {w : World} {ad : Option Addr} {ps : List (List UInt8)} (h : Sl w ad ps) (k : Nat) : Sl w ad (ps.take k) := by
  rcases h with h | ⟨b, o, h1, h2, h3⟩
  · subst h; exact .inl (by simp)
  · refine .inr ⟨b, o, h1, h2, fun i x hx => h3 i x ?_⟩
    rw [List.getElem?_take] at hx
    split at hx
    · exact hx
    · simp at hx

set_option maxHeartbeats 2000000 in
theorem walk_in (l : List UInt8) (n : Nat) (hl : l.length ≤ 9223372036854775807) (hn1 : 1 ≤ n) (hn2 : n ≤ 50) (w : World) (hm : Ml w) (h1 : okP l = true) :
    Calls Tryd.prog 7 #[.string (bs l), .int .i64 (n : Int)] w fun e w' => e = .returned (.bool true) ∧ Below w.heap.size w w' := by
  have q0 := points_w w hm
  obtain ⟨g1, j1⟩ := ok_good l h1
  have KC1 : Hid (∀ W, Below w.heap.size w W → Calls Tryd.prog 12 #[.string (bs l)] W fun e w' => e = .returned (.tuple #[.string (bs (jn (cln l))), .bool true]) ∧ Below W.heap.size W w') := fun W hb => by
    have := cleanp_w l hl W (hm.below hb); rwa [h1] at this
  have KR : Hid (∀ W, Below w.heap.size w W → Calls Tryd.prog 13 #[.string (bs (jn (cln l))), .string (bs (jn (List.replicate n [46, 46])))] W fun e w' => e = .returned (.tuple #[.string (bs (rsv (jn (cln l)) (jn (List.replicate n [46, 46]))).1), .int .i64 (rsv (jn (cln l)) (jn (List.replicate n [46, 46]))).2]) ∧ Below W.heap.size W w') := fun W hb => resolve_w (jn (cln l)) (jn (List.replicate n [46, 46])) (by omega) (by have := jn_len_up n; omega) W (hm.below hb)
  have KP : Hid (∀ W, Below w.heap.size w W → Calls Tryd.prog 15 #[.string (bs (jn (cln l)))] W fun e w' => ∃ ad, e = .returned (.slice ad (cln l).length (cln l).length) ∧ Hid (Sl w' ad (cln l)) ∧ Below W.heap.size W w') := fun W hb => by
    have := parts_w (jn (cln l)) (by omega) W (hm.below hb)
    rwa [prt_jn _ g1] at this
  have hcl : 2 * (cln l).length ≤ (jn (cln l)).length + 1 := jn_len_count _ fun p hp => (g1 p hp).1
  have HU : Hid (n ≤ (cln l).length → rsv (jn (cln l)) (jn (List.replicate n [46, 46])) = (jn ((cln l).take ((cln l).length - n)), 0)) := hid (fun h => rsv_up (cln l) g1 n hn1 hn2 h)
  have HV : Hid ((cln l).length < n → rsv (jn (cln l)) (jn (List.replicate n [46, 46])) = ([], 110)) := hid (fun h => rsv_over (cln l) g1 n hn1 hn2 h)
  have KJ : Hid (∀ W ad c, n ≤ (cln l).length → Sl W ad (cln l) → (cln l).length ≤ c → Calls Tryd.prog 17 #[.slice ad ((cln l).length - n) c] W fun e w' => e = .returned (.string (bs (jn ((cln l).take ((cln l).length - n))))) ∧ Below W.heap.size W w') := hid (fun W ad c hle hs hc => by
    have hL : ((cln l).take ((cln l).length - n)).length = (cln l).length - n := by rw [List.length_take]; omega
    have hfl := jn_len_bound 1000 ((cln l).take ((cln l).length - n)) (fun p hp => by
      have := jn_length_le (cln l) p (List.mem_of_mem_take hp); omega)
    rw [hL] at hfl
    have h2 : ((cln l).length - n) * (1000 + 1) ≤ 1000 * 1001 := Nat.mul_le_mul (by omega) (by omega)
    have := join_w ad c _ W (Sl.take' hs ((cln l).length - n)) (by rw [hL]; omega) (by rw [hL]; omega) (by omega)
    rwa [hL] at this)
  have hlen : (cln l).length ≤ 1000 := by omega
  clear hm h1 g1 hcl j1
  generalize cln l = ps at *
  generalize hD : jn ps = D at *
  generalize ps.length = N at *
  have y0 : Hid (∀ i, i ≤ 50 → (bs (jn (List.replicate i [46, 46]))).size ≤ 150) := hid (fun i hi => by rw [bs_size]; have := jn_len_up i; omega)
  go_enter Tryd.func7, Tryd.ntmps7
  go_wp2_with (first
    | (go_at_call 12; refine (KC1.out _ b00).mono ?_; rintro e w1 ⟨rfl, b1⟩; have b01 := b00.trans (b1.mono b00.size))
    | (go_at_call 11; refine q0.mono ?_; rintro e w0 ⟨rfl, b00⟩))
  go_loop [7, 30] (fun t7 t30 => ∃ i : Nat, i + 1 ≤ n ∧ t30 = .int .i64 i ∧ t7 = .string (bs (jn (List.replicate (i + 1) [46, 46])))) (fun _ t => n - (RowKit.intOf t).toNat)
  case atStart => exact ⟨0, hn1, rfl, by rw [List.replicate_one, jn_one]; rfl⟩
  case round =>
    obtain ⟨i, hi, rfl, rfl⟩ := hrel
    by_cases hlt : i + 1 < n
    · have k1 := dots_more i
      have y1 := y0.out (i + 1) (by omega)
      generalize hJ : jn (List.replicate (i + 1) [46, 46]) = J at *
      generalize hJ2 : jn (List.replicate (i + 2) [46, 46]) = J2 at *
      have HJ2 : Hid (jn (List.replicate (i + 1 + 1) [46, 46]) = J2) := hJ2
      have c1 : (i : Int) < (n : Int) - 1 := by omega
      clear hJ hJ2
      go_wp2_with fail
      go_round
      case rel => exact ⟨i + 1, by omega, by simp, by rw [HJ2.out]⟩
      case measure => simp [RowKit.intOf]; omega
    · have hin : i + 1 = n := by omega
      have c1 : ¬ (i : Int) < (n : Int) - 1 := by omega
      rw [hin]
      by_cases hle : n ≤ N
      · have KR2 := KR.out
        rw [HU.out hle] at KR2
        have KR3 : Hid _ := KR2
        have tJ := bs_toList (jn (ps.take (N - n)))
        have KJ2 := fun W ad c => KJ.out W ad c hle
        have c2 : ¬ (N : Int) < (n : Int) := by omega
        have c3 : (0 : Int) ≤ (N : Int) - (n : Int) := by omega
        have c4 : (N : Int) - (n : Int) ≤ (N : Int) := by omega
        have c5 : ((N : Int) - (n : Int)).toNat = N - n := by omega
        have KJ3 : Hid _ := KJ2
        clear KR KR2 KJ KJ2 HU HV hin
        generalize jn (List.replicate n [46, 46]) = T at *
        generalize jn (ps.take (N - n)) = V at *
        go_wp2_with (first
          | (go_at_call 17; refine (KJ3.out _ _ _ hs3.out (Nat.le_refl _)).mono ?_; rintro e w4 ⟨rfl, b4⟩; have b04 := b03.trans (b4.mono b03.size))
          | (go_at_call 15; refine (KP.out _ b02).mono ?_; rintro e w3 ⟨ad3, rfl, hs3, b3⟩; have b03 := b02.trans (b3.mono b02.size))
          | (go_at_call 13; refine (KR3.out _ b01).mono ?_; rintro e w2 ⟨rfl, b2⟩; have b02 := b01.trans (b2.mono b01.size)))
        go_ret
        exact ⟨rfl, b04⟩
      · have KR2 := KR.out
        rw [HV.out (by omega)] at KR2
        have KR3 : Hid _ := KR2
        have tJ := bs_toList []
        have c2 : (N : Int) < (n : Int) := by omega
        clear KR KR2 KJ HU HV hin
        generalize jn (List.replicate n [46, 46]) = T at *
        go_wp2_with (first
          | (go_at_call 15; refine (KP.out _ b02).mono ?_; rintro e w3 ⟨ad3, rfl, hs3, b3⟩; have b03 := b02.trans (b3.mono b02.size))
          | (go_at_call 13; refine (KR3.out _ b01).mono ?_; rintro e w2 ⟨rfl, b2⟩; have b02 := b01.trans (b2.mono b01.size)))
        go_ret
        exact ⟨rfl, b03⟩

set_option maxHeartbeats 1000000 in
theorem walk_out (l : List UInt8) (n : Int) (hl : l.length ≤ 9223372036854775807) (w : World) (hm : Ml w) (h : okP l = false ∨ n < 1 ∨ 50 < n) :
    Calls Tryd.prog 7 #[.string (bs l), .int .i64 n] w fun e w' => e = .returned (.bool true) ∧ Below w.heap.size w w' := by
  have q0 := points_w w hm
  have KC1 : Hid (∀ W, Below w.heap.size w W → Calls Tryd.prog 12 #[.string (bs l)] W fun e w' => e = .returned (.tuple #[.string (bs (jn (cln l))), .bool (okP l)]) ∧ Below W.heap.size W w') := fun W hb => cleanp_w l hl W (hm.below hb)
  clear hm
  generalize jn (cln l) = D at *
  generalize okP l = p at *
  cases p with
  | false =>
    clear h
    go_enter Tryd.func7, Tryd.ntmps7
    go_wp2_with (first
      | (go_at_call 12; refine (KC1.out _ b00).mono ?_; rintro e w1 ⟨rfl, b1⟩; have b01 := b00.trans (b1.mono b00.size))
      | (go_at_call 11; refine q0.mono ?_; rintro e w0 ⟨rfl, b00⟩))
    go_ret
    exact ⟨rfl, b01⟩
  | true =>
    by_cases c : n < 1
    · clear h
      go_enter Tryd.func7, Tryd.ntmps7
      go_wp2_with (first
        | (go_at_call 12; refine (KC1.out _ b00).mono ?_; rintro e w1 ⟨rfl, b1⟩; have b01 := b00.trans (b1.mono b00.size))
        | (go_at_call 11; refine q0.mono ?_; rintro e w0 ⟨rfl, b00⟩))
      go_ret
      exact ⟨rfl, b01⟩
    · have c2 : 50 < n := by rcases h with h | h | h <;> first | omega | cases h
      clear h
      go_enter Tryd.func7, Tryd.ntmps7
      go_wp2_with (first
        | (go_at_call 12; refine (KC1.out _ b00).mono ?_; rintro e w1 ⟨rfl, b1⟩; have b01 := b00.trans (b1.mono b00.size))
        | (go_at_call 11; refine q0.mono ?_; rintro e w0 ⟨rfl, b00⟩))
      go_ret
      exact ⟨rfl, b01⟩

theorem walk (s : ByteArray) (n : Int) (w : World) (hm : Ml w) (hs : s.size ≤ maxLen) :
    Calls Tryd.prog 7 #[.string s, .int .i64 n] w fun e w' => e = .returned (.bool true) ∧ Below w.heap.size w w' := by
  rw [bs_of s] at hs ⊢
  rw [bs_size] at hs
  unfold maxLen at hs
  generalize s.data.toList = l at *
  by_cases h : okP l = false ∨ n < 1 ∨ 50 < n
  · exact walk_out l n hs w hm h
  · simp only [not_or] at h
    obtain ⟨k, rfl⟩ : ∃ k : Nat, n = k := ⟨n.toNat, by omega⟩
    exact walk_in l k hs (by omega) (by omega) w hm (by simpa using h.1)

set_option maxRecDepth 100000 in
theorem lifted (os : Os) (started : os.Started) (H : Type) (enc : TypeId × Value → H) :
    ReturnsInHanded {} Tryd.checked os 7 .any (fun w args => (Rows.targetUpsSpec.pre enc Tryd.prog Tryd.f7 [] false w args ∧ laidMetH Tryd.prog two w) ∧ sizedMet enc Tryd.prog Tryd.f7 (OpenSpec.ofChange Rows.targetUpsSpec) false w args)
      (Rows.targetUpsSpec.post enc Tryd.prog Tryd.f7 false true false false) := by
  refine handed_shaped (C := Tryd.checked) (X := fun w _ => laidMetH Tryd.prog two w) (fun _ _ _ hh h => h.of_heap hh) own started (by kernel_rfl) Tryd.func7
    (ChangeSpec.witness_at (enc := enc) (C := Tryd.checked) (os := os) (X := fun w _ => laidMetH Tryd.prog two w) false
      (start os)
      #[.string ⟨#[]⟩, .int .i64 0] 8 rfl (by kernel_rfl) (by kernel_rfl) (by kernel_rfl) (by kernel_rfl) (by kernel_rfl) (laidMet_of_run' 8 (by kernel_rfl) (by kernel_rfl))) ?_
  intro W base args ds gs before hval0 hW hsz hsh
  have hval : ∀ (j : Nat) t v, Tryd.f7.params[j]? = some t → args[j]? = some v → Value.okWide Tryd.prog W .any base t v := hval0
  have hW' := hW
  obtain ⟨p, q, hA0, hV0, rfl, hfz, hnd⟩ := hW
  have hA : DataW.TrodAll enc Tryd.prog W 0 (fun _ => true) true Tryd.f7.params.toList args.toList ds p := hA0
  have hV : DataW.TrodVars enc Tryd.prog W (fun _ => true) [] gs q := hV0
  rw [Tryd.params7] at hA hval
  obtain ⟨v0, vs0, d0, ds0, p0, q0, hargs, rfl, rfl, h0, r0⟩ := trodAll_cons hA
  obtain ⟨v1, vs1, d1, ds1, p1, q1, rfl, rfl, rfl, h1, r1⟩ := trodAll_cons r0
  obtain ⟨rfl, rfl, rfl⟩ := trodAll_nil r1
  obtain rfl : args = #[v0, v1] := by cases args; simp_all
  obtain ⟨rfl, rfl⟩ : gs = [] ∧ q = [] := by
    cases gs with
    | nil => exact ⟨rfl, hV⟩
    | cons g r => exact absurd hV (by intro h; cases h)
  obtain ⟨s0, rfl, rfl, rfl, m0⟩ := Go.ChangeMaps.open_string Tryd.underlying9 (hval 0 9 v0 rfl rfl) h0
  obtain ⟨a1, rfl, rfl, rfl, w1⟩ := open_int Tryd.underlying3 (hval 1 3 v1 rfl rfl) h1
  clear hA0 hval0
  refine (walk s0 a1 W (shaped hsh) m0).mono fun e W' ⟨he, st⟩ => ?_
  subst he
  exact ⟨_, rfl, _, _, _, [], _, [], hW', trodAll_mk1 (shut_bool Tryd.underlying4 _), (trodAll_cons_mk (Go.ChangeMaps.shut_string Tryd.underlying9 m0) (trodAll_cons_mk (shut_int Tryd.underlying3 w1) trodAll_mk0)), rfl, st.frame _, fun h => by cases h⟩

theorem over : Rows.TargetUpsSaid :=
  OpenClaim.holds_of_wide 7 Tryd.f7 rfl rfl rfl rfl rfl rfl rfl ⟨rfl, rfl, rfl, rfl, rfl⟩ rfl rfl rfl rfl rfl (by kernel_rfl) Tryd.func7 (by kernel_rfl)
    (of_decide_eq_true (by kernel_rfl)) (by unfold Func.isWrapper; rw [if_neg (of_decide_eq_false (by kernel_rfl))]; exact ⟨rfl, rfl⟩)
    (fun os started H enc _ => lifted os started H enc)

theorem carded : Rows.TargetUpsCardSaid :=
  Claim7.holds_tied_plain_at .later [] _ _ _ _
    over (fun _ h => by cases h) (by kernel_rfl) (fun _ h => by cases h) targetUps_row_tie rfl ⟨rfl, rfl⟩ (by kernel_rfl) rfl
    (fun f fn hf hfn => by
      obtain rfl : f = 7 := Option.some.inj ((show Tryd.prog.funcNamed Tryd.f7.name = some 7 by kernel_rfl).symm.trans hf) |>.symm
      obtain rfl : fn = Tryd.f7 := (Option.some.inj (Tryd.func7.symm.trans hfn)).symm
      refine ⟨by kernel_rfl, fun j t ht => ?_⟩
      have hall : ∀ t ∈ Tryd.f7.params, Tryd.prog.wantsStandIn t = false := by
        rw [Tryd.params7]
        intro t ht
        simp at ht
        rcases ht with rfl | rfl <;> kernel_rfl
      exact hall t (Array.mem_of_getElem? ht))
    (by kernel_rfl)

end Go.Proofs.YtmeaiplinkodiabDoor.targetUps
namespace Go.Proofs.YtmeaiplinkodiabDoor
theorem targetUps_holds : Rows.TargetUpsCardSaid := targetUps.carded
#print axioms targetUps_holds
end Go.Proofs.YtmeaiplinkodiabDoor
