/-
  The card of the law WholeInside holds: it returns true for every input, the variables of the library that it lists being as the program text lays them.
-/
import Derived.Test.YtmeaiplinkodiacDoorLaid
import Derived.Test.YtmeaiplinkodiacDoorCards
import Derived.Test.YtmeaiplinkodiacDoorTie
import Derived.Test.YtmeaiplinkodiacDoorStrs
import Derived.Test.YtmeaiplinkodiacDoorPl2
namespace Go.Proofs.YtmeaiplinkodiacDoor.wholeInside
open Go.ChangeShapes Go.WideShapes Go.RowKit
set_option linter.unusedVariables false
set_option linter.unusedSimpArgs false

theorem res0 (w : World) (hm : Ml w) : Calls Tryd.prog 10 #[.string ⟨#[97]⟩, .string ⟨#[46, 46, 47, 98]⟩] w fun e w' => e = .returned (.tuple #[.string ⟨#[98]⟩, .int .i64 0]) ∧ Below w.heap.size w w' := by
  have q := resolve_w [97] [46, 46, 47, 98] (by decide) (by decide) w hm
  have e : rsv [97] [46, 46, 47, 98] = ([98], 0) := by decide +kernel
  rw [e] at q
  exact q

theorem under0 (s : List UInt8) (W : World) : Calls Tryd.prog 13 #[.string ⟨#[]⟩, .string (bs s)] W fun e w' => e = .returned (.bool true) ∧ w' = W := by
  have := under_w [] s W
  rwa [show und [] s = true by simp [und, Lib.hasPrefix]] at this

theorem Good.out {A : List (List UInt8)} (h : Hid (∀ p ∈ A, Good p)) : ∀ p ∈ A, Good p := h

set_option maxRecDepth 20000 in
set_option maxHeartbeats 4000000 in
theorem walk_in (l : List UInt8) (ad : Option Addr) (n cap : Nat) (X : List (List UInt8)) (w : World) (hm : Ml w) (hX : X.length = n) (hnc : n ≤ cap) (hcm : cap ≤ 9223372036854775807) (hSl : Sl w ad X) (hXm : ∀ x ∈ X, x.length ≤ 9223372036854775807)
    (h0 : err l = 0) (h20 : n ≤ 20) (h300 : l.length ≤ 300) :
    Calls Tryd.prog 4 #[.string (bs l), .slice ad n cap] w fun e w' => e = .returned (.bool true) ∧ Below w.heap.size w w' := by
  have q0 := res0 w hm
  have hg : ∀ p ∈ cln l, Good p := by unfold cln; rw [if_pos h0]; exact parts_good l h0
  have hjl : (jn (cln l)).length ≤ 300 := by unfold cln; rw [if_pos h0]; have := jn_parts_length l; omega
  have hcl : 2 * (cln l).length ≤ (jn (cln l)).length + 1 := jn_len_count _ fun p hp => (hg p hp).1
  have KQ : Hid (∀ W, Below w.heap.size w W → Calls Tryd.prog 11 #[.string (bs l)] W fun e w' => ∃ ad c, e = .returned (.tuple #[.slice ad (cln l).length c, .int .i64 0]) ∧ (cln l).length ≤ c ∧ c ≤ 9223372036854775807 ∧ Hid (Sl w' ad (cln l)) ∧ Below W.heap.size W w') := fun W hb => by
    have := clean_sl l (by omega) W (hm.below hb); rwa [h0] at this
  have KJ0 : Hid (∀ W ad c, Sl W ad (cln l) → (cln l).length ≤ c → Calls Tryd.prog 12 #[.slice ad (cln l).length c] W fun e w' => e = .returned (.string (bs (jn (cln l)))) ∧ Below W.heap.size W w') := fun W ad c hs hc => join_w ad c (cln l) W hs hc (by omega) (by omega)
  -- what the calls of a round say
  have KR : Hid (∀ (A : List (List UInt8)) (x : List UInt8), (jn A).length ≤ 1000 → x.length ≤ 100 → ∀ W, Below w.heap.size w W → Calls Tryd.prog 10 #[.string (bs (jn A)), .string (bs x)] W fun e w' => e = .returned (.tuple #[.string (bs (rsv (jn A) x).1), .int .i64 (rsv (jn A) x).2]) ∧ Below W.heap.size W w') := fun A x h1 h2 W hb => resolve_w (jn A) x (by omega) (by omega) W (hm.below hb)
  have KC : Hid (∀ B : List (List UInt8), (∀ p ∈ B, Good p) → B ≠ [] → (jn B).length ≤ 4000 → ∀ W, Below w.heap.size w W → Calls Tryd.prog 11 #[.string (bs (jn B))] W fun e w' => ∃ ad c, e = .returned (.tuple #[.slice ad B.length c, .int .i64 0]) ∧ B.length ≤ c ∧ c ≤ 9223372036854775807 ∧ Hid (Sl w' ad B) ∧ Below W.heap.size W w') := fun B hB hne hl W hb => by
    have ej : err (jn B) = 0 := err_jn B hne hB hl
    have := clean_sl (jn B) (by omega) W (hm.below hb)
    rwa [ej, show cln (jn B) = B by rw [cln, if_pos ej, parts_good_jn B hne hB]] at this
  have KJ : Hid (∀ B : List (List UInt8), (∀ p ∈ B, Good p) → (jn B).length ≤ 4000 → ∀ W ad c, Sl W ad B → B.length ≤ c → Calls Tryd.prog 12 #[.slice ad B.length c] W fun e w' => e = .returned (.string (bs (jn B))) ∧ Below W.heap.size W w') := fun B hB hl W ad c hs hc => by
    have := jn_len_count B fun p hp => (hB p hp).1
    exact join_w ad c B W hs hc (by omega) (by omega)
  have KL : Hid (∀ A B : List (List UInt8), (∀ p ∈ A, Good p) → (∀ p ∈ B, Good p) → (jn A).length ≤ 1000 → (jn B).length ≤ 1000 → ∀ W, Below w.heap.size w W → Calls Tryd.prog 9 #[.string (bs (jn A)), .string (bs (jn B))] W fun e w' => e = .returned (.string (bs (rel A B))) ∧ Below W.heap.size W w') := fun A B hA hB h1 h2 W hb => by
    have := relative_w (jn A) (jn B) (by omega) (by omega) W (hm.below hb); rwa [prt_jn _ hA, prt_jn _ hB] at this
  have KB : Hid (∀ A B : List (List UInt8), (∀ p ∈ A, Good p) → (∀ p ∈ B, Good p) → (jn A).length ≤ 1000 → (jn B).length ≤ 1000 → ∀ W, Below w.heap.size w W → Calls Tryd.prog 10 #[.string (bs (jn A)), .string (bs (rel A B))] W fun e w' => e = .returned (.tuple #[.string (bs (jn B)), .int .i64 0]) ∧ Below W.heap.size W w') := fun A B hA hB h1 h2 W hb => by
    have hrl := rel_len A B fun p hp => (hA p hp).1
    have := resolve_w (jn A) (rel A B) (by omega) (by omega) W (hm.below hb); rwa [rsv_rel _ _ hA hB (by omega)] at this
  have HSl : Hid (∀ W, Below w.heap.size w W → Sl W ad X) := fun W hb => hSl.below hb
  have HXl : Hid (X.length = n) := hX
  have HG0 : Hid (∀ p ∈ cln l, Good p) := hg
  have z1 := bs_size l
  clear hm h0 hg hSl hX hcl
  generalize hps : cln l = ps at *
  generalize hpl : ps.length = pl at *
  clear hps
  go_enter Tryd.func4, Tryd.ntmps4
  go_wp2_with (first
    | (go_at_call 12; refine (KJ0.out _ _ _ hs1.out hc1).mono ?_; rintro e w2 ⟨rfl, b2⟩; have b02 := b01.trans (b2.mono b01.size))
    | (go_at_call 11; refine (KQ.out _ b00).mono ?_; rintro e w1 ⟨ad1, c1, rfl, hc1, hm1, hs1, b1⟩; have b01 := b00.trans (b1.mono b00.size))
    | (go_at_call 10; refine q0.mono ?_; rintro e w0 ⟨rfl, b00⟩))
  clear q0 KQ KJ0
  go_loopg [9, 51] n (fun g t9 t51 wr => ∃ (i : Nat) (A : List (List UInt8)), i + g = n ∧ t51 = .int .i64 i ∧ t9 = .string (bs (jn A)) ∧ (jn A).length ≤ 1000 ∧ Hid (∀ p ∈ A, Good p) ∧ Below w.heap.size w wr)
  case atStart => exact ⟨0, ps, by omega, rfl, rfl, by omega, HG0, b02⟩
  case round =>
    obtain ⟨i, A, hig, rfl, rfl, hA1, HA, bb⟩ := hrel
    by_cases hlt : i < n
    · have l1 : i < X.length := by rw [HXl.out]; exact hlt
      obtain ⟨x, hx⟩ : ∃ x, X[i]? = some x := ⟨X[i], List.getElem?_eq_getElem _⟩
      have hxm := hXm x (List.mem_of_getElem? hx)
      obtain ⟨b, o, had, hcell⟩ : ∃ b o, ad = some ⟨b, o, none⟩ ∧ wr.cell? ⟨b, o + i, none⟩ = some (.string (bs x)) := by
        rcases HSl.out wr bb with h | ⟨b, o, h1, h2, h3⟩
        · rw [h] at hx; simp at hx
        · exact ⟨b, o, h1, h3 i x hx⟩
      subst had
      have zx := bs_size x
      clear hx l1
      by_cases h100 : 100 < x.length
      · go_wp2_with fail
        go_ret
        exact ⟨rfl, bb⟩
      · have q1 := KR.out A x hA1 (by omega) wr bb
        by_cases hz : (rsv (jn A) x).2 = 0
        · obtain ⟨r1, r2, r3, r4⟩ := rsv_ok A HA.out x hz
          have hrl := stp_len A x
          rw [r3] at q1
          have HB : Hid (∀ p ∈ (stp A (spl x)).1, Good p) := r4
          have HBe : Hid ((stp A (spl x)).1 = [] → (jn (stp A (spl x)).1).isEmpty = true) := hid (fun e => by rw [e]; rfl)
          have HBn : Hid ((stp A (spl x)).1 ≠ [] → (jn (stp A (spl x)).1).isEmpty = false) := hid (fun e => by
            cases hh : (stp A (spl x)).1 with
            | nil => exact absurd hh e
            | cons p r => have := jn_ne p r (r4 p (by rw [hh]; simp)).1; simpa using this)
          clear r1 r2 r3 r4 hz
          generalize (stp A (spl x)).1 = B at *
          have hBl : (jn B).length ≤ 4000 := by omega
          have tA := bs_toList (jn A)
          have tB := bs_toList (jn B)
          have zB := bs_size (jn B)
          have qu := fun W => under0 (jn B) W
          by_cases hB0 : B = []
          · have hE := HBe.out hB0
            have hBs : (jn B).length ≤ 1000 := by rw [hB0, jn_nil]; simp
            have L1 : Hid _ := KL.out B A HB.out HA.out hBs hA1
            have L2 : Hid _ := KL.out A B HA.out HB.out hA1 hBs
            have R1 : Hid _ := KB.out B A HB.out HA.out hBs hA1
            have R2 : Hid _ := KB.out A B HA.out HB.out hA1 hBs
            clear KR KC KJ KL KB HBe HBn hB0
            generalize rel B A = RBA at *
            generalize rel A B = RAB at *
            generalize hJA : jn A = JA at *
            generalize hJB : jn B = JB at *
            have HJB : Hid (jn B = JB) := hJB
            clear hJA hJB
            go_wp2_with (first
              | (go_at_call 13; refine (qu _).mono ?_; rintro e w' ⟨rfl, hw⟩; rw [hw])
              | (go_at_call 10; refine (R2.out _ b06).mono ?_; rintro e w7 ⟨rfl, b7⟩; have b07 := b06.trans (b7.mono b06.size))
              | (go_at_call 9; refine (L2.out _ b05).mono ?_; rintro e w6 ⟨rfl, b6⟩; have b06 := b05.trans (b6.mono b05.size))
              | (go_at_call 10; refine (R1.out _ b04).mono ?_; rintro e w5 ⟨rfl, b5⟩; have b05 := b04.trans (b5.mono b04.size))
              | (go_at_call 9; refine (L1.out _ b03).mono ?_; rintro e w4 ⟨rfl, b4⟩; have b04 := b03.trans (b4.mono b03.size))
              | (go_at_call 10; refine q1.mono ?_; rintro e w3 ⟨rfl, b3⟩; have b03 := bb.trans (b3.mono bb.size)))
            go_roundg (n - (i + 1))
            case measure => omega
            case rel => exact ⟨i + 1, B, by omega, by simp, by rw [HJB.out], by rw [HJB.out]; exact hBs, HB, b07⟩
          · have hE := HBn.out hB0
            have C1 : Hid _ := KC.out B HB.out hB0 hBl
            have J1 : Hid _ := KJ.out B HB.out hBl
            by_cases hBs : (jn B).length ≤ 1000
            · have L1 : Hid _ := KL.out B A HB.out HA.out hBs hA1
              have L2 : Hid _ := KL.out A B HA.out HB.out hA1 hBs
              have R1 : Hid _ := KB.out B A HB.out HA.out hBs hA1
              have R2 : Hid _ := KB.out A B HA.out HB.out hA1 hBs
              clear KR KC KJ KL KB HBe HBn hB0
              generalize rel B A = RBA at *
              generalize rel A B = RAB at *
              generalize hJA : jn A = JA at *
              generalize hJB : jn B = JB at *
              generalize B.length = lB at *
              have HJB : Hid (jn B = JB) := hJB
              clear hJA hJB
              go_wp2_with (first
                | (go_at_call 13; refine (qu _).mono ?_; rintro e w' ⟨rfl, hw⟩; rw [hw])
                | (go_at_call 10; refine (R2.out _ b06).mono ?_; rintro e w7 ⟨rfl, b7⟩; have b07 := b06.trans (b7.mono b06.size))
                | (go_at_call 9; refine (L2.out _ b05).mono ?_; rintro e w6 ⟨rfl, b6⟩; have b06 := b05.trans (b6.mono b05.size))
                | (go_at_call 10; refine (R1.out _ b04).mono ?_; rintro e w5 ⟨rfl, b5⟩; have b05 := b04.trans (b5.mono b04.size))
                | (go_at_call 9; refine (L1.out _ b09).mono ?_; rintro e w4 ⟨rfl, b4⟩; have b04 := b09.trans (b4.mono b09.size))
                | (go_at_call 12; refine (J1.out _ _ _ hs8.out hc8).mono ?_; rintro e w9 ⟨rfl, b9⟩; have b09 := b08.trans (b9.mono b08.size))
                | (go_at_call 11; refine (C1.out _ b03).mono ?_; rintro e w8 ⟨ad8, c8, rfl, hc8, hm8, hs8, b8⟩; have b08 := b03.trans (b8.mono b03.size))
                | (go_at_call 10; refine q1.mono ?_; rintro e w3 ⟨rfl, b3⟩; have b03 := bb.trans (b3.mono bb.size)))
              go_roundg (n - (i + 1))
              case measure => omega
              case rel => exact ⟨i + 1, B, by omega, by simp, by rw [HJB.out], by rw [HJB.out]; exact hBs, HB, b07⟩
            · have hBs' : 1000 < (jn B).length := by omega
              clear KR KC KJ KL KB HBe HBn hB0
              generalize jn A = JA at *
              generalize jn B = JB at *
              generalize B.length = lB at *
              go_wp2_with (first
                | (go_at_call 12; refine (J1.out _ _ _ hs8.out hc8).mono ?_; rintro e w9 ⟨rfl, b9⟩; have b09 := b08.trans (b9.mono b08.size))
                | (go_at_call 11; refine (C1.out _ b03).mono ?_; rintro e w8 ⟨ad8, c8, rfl, hc8, hm8, hs8, b8⟩; have b08 := b03.trans (b8.mono b03.size))
                | (go_at_call 10; refine q1.mono ?_; rintro e w3 ⟨rfl, b3⟩; have b03 := bb.trans (b3.mono bb.size)))
              go_ret
              exact ⟨rfl, b09⟩
        · rw [rsv_no _ _ hz] at q1
          have tE := bs_toList []
          have HJA : Hid (∀ p ∈ A, Good p) := HA
          clear KR KC KJ KL KB
          generalize (rsv (jn A) x).2 = z at *
          generalize hJA : jn A = JA at *
          have HJ : Hid (jn A = JA) := hJA
          clear hJA
          go_wp2_with (go_at_call 10; refine q1.mono ?_; rintro e w3 ⟨rfl, b3⟩; have b03 := bb.trans (b3.mono bb.size))
          go_roundg (n - (i + 1))
          case measure => omega
          case rel => exact ⟨i + 1, A, by omega, by simp, by rw [HJ.out], by rw [HJ.out]; exact hA1, HA, b03⟩
    · go_wp2_with fail
      go_ret
      exact ⟨rfl, bb⟩

set_option maxHeartbeats 1000000 in
theorem walk_out (l : List UInt8) (ad : Option Addr) (n cap : Nat) (w : World) (hm : Ml w) (hl : l.length ≤ 9223372036854775807) (hn : n ≤ 9223372036854775807) (h : err l ≠ 0 ∨ 20 < n ∨ 300 < l.length) :
    Calls Tryd.prog 4 #[.string (bs l), .slice ad n cap] w fun e w' => e = .returned (.bool true) ∧ Below w.heap.size w w' := by
  have q0 := res0 w hm
  have KQ : Hid (∀ W, Below w.heap.size w W → Calls Tryd.prog 11 #[.string (bs l)] W fun e w' => ∃ ad c, e = .returned (.tuple #[.slice ad (cln l).length c, .int .i64 (err l)]) ∧ (cln l).length ≤ c ∧ c ≤ 9223372036854775807 ∧ Hid (Sl w' ad (cln l)) ∧ Below W.heap.size W w') := fun W hb => clean_sl l hl W (hm.below hb)
  have z1 := bs_size l
  clear hm
  generalize cln l = ps at *
  generalize ps.length = pl at *
  generalize err l = z at *
  by_cases c1 : z = 0
  · subst c1
    by_cases c2 : 20 < n
    · go_enter Tryd.func4, Tryd.ntmps4
      go_wp2_with (first
        | (go_at_call 11; refine (KQ.out _ b00).mono ?_; rintro e w1 ⟨ad1, c1, rfl, hc1, hm1, hs1, b1⟩; have b01 := b00.trans (b1.mono b00.size))
        | (go_at_call 10; refine q0.mono ?_; rintro e w0 ⟨rfl, b00⟩))
      go_ret
      exact ⟨rfl, b01⟩
    · have c3 : 300 < l.length := by omega
      go_enter Tryd.func4, Tryd.ntmps4
      go_wp2_with (first
        | (go_at_call 11; refine (KQ.out _ b00).mono ?_; rintro e w1 ⟨ad1, c1, rfl, hc1, hm1, hs1, b1⟩; have b01 := b00.trans (b1.mono b00.size))
        | (go_at_call 10; refine q0.mono ?_; rintro e w0 ⟨rfl, b00⟩))
      go_ret
      exact ⟨rfl, b01⟩
  · clear h
    go_enter Tryd.func4, Tryd.ntmps4
    go_wp2_with (first
      | (go_at_call 11; refine (KQ.out _ b00).mono ?_; rintro e w1 ⟨ad1, c1, rfl, hc1, hm1, hs1, b1⟩; have b01 := b00.trans (b1.mono b00.size))
      | (go_at_call 10; refine q0.mono ?_; rintro e w0 ⟨rfl, b00⟩))
    go_ret
    exact ⟨rfl, b01⟩

theorem walk (s : ByteArray) (ad : Option Addr) (n cap : Nat) (X : List (List UInt8)) (w : World) (hm : Ml w) (hs : s.size ≤ maxLen) (z : X.length = n ∧ n ≤ cap ∧ cap ≤ 9223372036854775807 ∧ Sl w ad X ∧ ∀ x ∈ X, x.length ≤ 9223372036854775807) :
    Calls Tryd.prog 4 #[.string s, .slice ad n cap] w fun e w' => e = .returned (.bool true) ∧ Below w.heap.size w w' := by
  obtain ⟨z1, z2, z3, z4, z5⟩ := z
  rw [bs_of s] at hs ⊢
  rw [bs_size] at hs
  unfold maxLen at hs
  generalize s.data.toList = l at *
  by_cases h : err l ≠ 0 ∨ 20 < n ∨ 300 < l.length
  · exact walk_out l ad n cap w hm hs (by omega) h
  · simp only [not_or, Classical.not_not] at h
    exact walk_in l ad n cap X w hm z1 z2 z3 z4 z5 h.1 (by omega) (by omega)

set_option maxRecDepth 100000 in
theorem lifted (os : Os) (started : os.Started) (H : Type) (enc : TypeId × Value → H) :
    ReturnsInHanded {} Tryd.checked os 4 .any (fun w args => (Rows.wholeInsideSpec.pre enc Tryd.prog Tryd.f4 [] false w args ∧ laidMetH Tryd.prog two w) ∧ sizedMet enc Tryd.prog Tryd.f4 (OpenSpec.ofChange Rows.wholeInsideSpec) false w args)
      (Rows.wholeInsideSpec.post enc Tryd.prog Tryd.f4 false true false false) := by
  refine handed_shaped (C := Tryd.checked) (X := fun w _ => laidMetH Tryd.prog two w) (fun _ _ _ hh h => h.of_heap hh) own started (by kernel_rfl) Tryd.func4
    (ChangeSpec.witness_at (enc := enc) (C := Tryd.checked) (os := os) (X := fun w _ => laidMetH Tryd.prog two w) false
      (start os)
      #[.string ⟨#[]⟩, .slice none 0 0] 8 rfl (by kernel_rfl) (by kernel_rfl) (by kernel_rfl) (by kernel_rfl) (by kernel_rfl) (laidMet_of_run' 8 (by kernel_rfl) (by kernel_rfl))) ?_
  intro W base args ds gs before hval0 hW hsz hsh
  have hval : ∀ (j : Nat) t v, Tryd.f4.params[j]? = some t → args[j]? = some v → Value.okWide Tryd.prog W .any base t v := hval0
  have hW' := hW
  obtain ⟨p, q, hA0, hV0, rfl, hfz, hnd⟩ := hW
  have hA : DataW.TrodAll enc Tryd.prog W 0 (fun _ => true) true Tryd.f4.params.toList args.toList ds p := hA0
  have hV : DataW.TrodVars enc Tryd.prog W (fun _ => true) [] gs q := hV0
  rw [Tryd.params4] at hA hval
  obtain ⟨v0, vs0, d0, ds0, p0, q0, hargs, rfl, rfl, h0, r0⟩ := trodAll_cons hA
  obtain ⟨v1, vs1, d1, ds1, p1, q1, rfl, rfl, rfl, h1, r1⟩ := trodAll_cons r0
  obtain ⟨rfl, rfl, rfl⟩ := trodAll_nil r1
  obtain rfl : args = #[v0, v1] := by cases args; simp_all
  obtain ⟨rfl, rfl⟩ : gs = [] ∧ q = [] := by
    cases gs with
    | nil => exact ⟨rfl, hV⟩
    | cons g r => exact absurd hV (by intro h; cases h)
  obtain ⟨s0, rfl, rfl, rfl, m0⟩ := Go.ChangeMaps.open_string Tryd.underlying9 (hval 0 9 v0 rfl rfl) h0
  have k1 := h1
  have lt1 : ∀ x ∈ p1, x.block < W.heap.size := by obtain ⟨m, hm⟩ := k1; exact DataW.trod_lt m _ _ _ hm
  obtain ⟨ad1, n1, cap1, X1, rfl, z1⟩ := open_strs_in (hval 1 25 v1 rfl rfl) h1
  clear hA0 hval0
  refine (walk s0 ad1 n1 cap1 X1 W (shaped hsh) m0 z1).mono fun e W' ⟨he, st⟩ => ?_
  subst he
  exact ⟨_, rfl, _, _, _, [], _, [], hW', trodAll_mk1 (shut_bool Tryd.underlying4 _), (trodAll_cons_mk (Go.ChangeMaps.shut_string Tryd.underlying9 m0) (trodAll_cons_mk (Below.trod laidOut (by kernel_rfl) (of_decide_eq_true (by kernel_rfl)) k1 st lt1) trodAll_mk0)), rfl, st.frame _, fun h => by cases h⟩

theorem over : Rows.WholeInsideSaid :=
  OpenClaim.holds_of_wide 4 Tryd.f4 rfl rfl rfl rfl rfl rfl rfl ⟨rfl, rfl, rfl, rfl, rfl⟩ rfl rfl rfl rfl rfl (by kernel_rfl) Tryd.func4 (by kernel_rfl)
    (of_decide_eq_true (by kernel_rfl)) (by unfold Func.isWrapper; rw [if_neg (of_decide_eq_false (by kernel_rfl))]; exact ⟨rfl, rfl⟩)
    (fun os started H enc _ => lifted os started H enc)

theorem carded : Rows.WholeInsideCardSaid :=
  Claim7.holds_tied_plain_at .later [] _ _ _ _
    over (fun _ h => by cases h) (by kernel_rfl) (fun _ h => by cases h) wholeInside_row_tie rfl ⟨rfl, rfl⟩ (by kernel_rfl) rfl
    (fun f fn hf hfn => by
      obtain rfl : f = 4 := Option.some.inj ((show Tryd.prog.funcNamed Tryd.f4.name = some 4 by kernel_rfl).symm.trans hf) |>.symm
      obtain rfl : fn = Tryd.f4 := (Option.some.inj (Tryd.func4.symm.trans hfn)).symm
      refine ⟨by kernel_rfl, fun j t ht => ?_⟩
      have hall : ∀ t ∈ Tryd.f4.params, Tryd.prog.wantsStandIn t = false := by
        rw [Tryd.params4]
        intro t ht
        simp at ht
        rcases ht with rfl | rfl <;> kernel_rfl
      exact hall t (Array.mem_of_getElem? ht))
    (by kernel_rfl)

end Go.Proofs.YtmeaiplinkodiacDoor.wholeInside
namespace Go.Proofs.YtmeaiplinkodiacDoor
theorem wholeInside_holds : Rows.WholeInsideCardSaid := wholeInside.carded
#print axioms wholeInside_holds
end Go.Proofs.YtmeaiplinkodiacDoor
