/-
  Contracts: path.Up; the laws' own same and cleans.
-/
import Derived.Test.YtmeaiplinkodiaaDoorFns
namespace Go.Proofs.YtmeaiplinkodiaaDoor
open Go.RowKit
open Go.Lib hiding intOf
set_option linter.unusedVariables false
set_option linter.unusedSimpArgs false

/-- are the parts the same? -/
def smB (a b : List (List UInt8)) : Bool := decide (a = b)

theorem smB_len {a b : List (List UInt8)} (h : ¬ a.length = b.length) : smB a b = false := decide_eq_false fun e => h (by rw [e])

set_option maxHeartbeats 2000000 in
theorem same_w (ad ad2 : Option Addr) (c c2 : Nat) (ps qs : List (List UInt8)) (w : World) (h1 : Sl w ad ps) (h2 : Sl w ad2 qs) (hc : ps.length ≤ c) (hc2 : qs.length ≤ c2) (hn : ps.length ≤ 4611686018427387903) (hm : qs.length ≤ 4611686018427387903) :
    Calls Tryd.prog 12 #[.slice ad ps.length c, .slice ad2 qs.length c2] w fun e w' => e = .returned (.bool (smB ps qs)) ∧ Below w.heap.size w w' := by
  by_cases hl : ps.length = qs.length
  · have HL : Hid (ps.length = qs.length) := hl
    rcases h1 with h1 | ⟨b, o, rfl, hb, g1⟩
    · subst h1
      have h2' : qs = [] := List.eq_nil_of_length_eq_zero hl.symm
      subst h2'
      clear h2 hl HL
      have HF : Hid (smB [] [] = true) := hid (by decide)
      rw [List.length_nil] at *
      go_enter Tryd.func12, Tryd.ntmps12
      go_wp2_with fail
      refine wp_loop_rounds 1 ?_
      rw [rounds_succ]
      go_wp2_with fail
      go_ret
      exact ⟨by rw [HF.out]; rfl, Below.refl _ _⟩
    · rcases h2 with h2 | ⟨b2, o2, rfl, hb2, g2⟩
      · subst h2
        have h1' : ps = [] := List.eq_nil_of_length_eq_zero hl
        subst h1'
        clear hl HL g1
        have HF : Hid (smB [] [] = true) := hid (by decide)
        rw [List.length_nil] at *
        go_enter Tryd.func12, Tryd.ntmps12
        go_wp2_with fail
        refine wp_loop_rounds 1 ?_
        rw [rounds_succ]
        go_wp2_with fail
        go_ret
        exact ⟨by rw [HF.out]; rfl, Below.refl _ _⟩
      · have G1 : Hid (∀ W, Below w.heap.size w W → ∀ i x, ps[i]? = some x → W.cell? ⟨b, o + i, none⟩ = some (.string (bs x))) := fun W hW i x hx => (hW.cell (p := ⟨b, o + i, none⟩) hb).trans (g1 i x hx)
        have G2 : Hid (∀ W, Below w.heap.size w W → ∀ i x, qs[i]? = some x → W.cell? ⟨b2, o2 + i, none⟩ = some (.string (bs x))) := fun W hW i x hx => (hW.cell (p := ⟨b2, o2 + i, none⟩) hb2).trans (g2 i x hx)
        clear g1 g2
        rw [← hl] at hm hc2 ⊢
        generalize hN : ps.length = N at *
        have HN : Hid (ps.length = N) := hN
        clear hl hN
        go_enter Tryd.func12, Tryd.ntmps12
        go_wp2_with fail
        go_loopw [13] (fun u wr => ∃ i : Nat, i ≤ N ∧ u = .int .i64 i ∧ Hid (ps.take i = qs.take i) ∧ Below w.heap.size w wr) (fun u _ => N - (RowKit.intOf u).toNat)
        case atStart => exact ⟨0, Nat.zero_le _, rfl, by simp [Hid], Below.refl _ _⟩
        case round =>
          obtain ⟨i, hi, rfl, H, bb⟩ := hrel
          by_cases hlt : i < N
          · have l1 : i < ps.length := by rw [HN.out]; exact hlt
            have l2 : i < qs.length := by rw [← HL.out]; exact hlt
            obtain ⟨x, hx⟩ : ∃ x, ps[i]? = some x := ⟨ps[i], List.getElem?_eq_getElem _⟩
            obtain ⟨y, hy⟩ : ∃ y, qs[i]? = some y := ⟨qs[i], List.getElem?_eq_getElem _⟩
            have k1 := G1.out wr bb i x hx
            have k2 := G2.out wr bb i y hy
            have tx := bs_toList x
            have ty := bs_toList y
            by_cases e : x = y
            · subst e
              have H2 : Hid (ps.take (i + 1) = qs.take (i + 1)) := hid (by rw [List.take_add_one, List.take_add_one, H.out, hx, hy])
              clear hx hy l1 l2
              go_wp2_with fail
              go_quiet (fail)
              have b7 := bb.drewN' nq
              generalize wr.drewN nq = w7 at *
              go_wp2_with fail
              go_roundw
              case rel => exact ⟨i + 1, by omega, by simp, H2, b7⟩
              case measure => simp [RowKit.intOf]; omega
            · have e' : (x == y) = false := beq_eq_false_iff_ne.2 e
              have HF : Hid (smB ps qs = false) := hid (decide_eq_false fun h => e (by rw [h, hy] at hx; exact (Option.some.inj hx).symm))
              clear hx hy l1 l2
              go_wp2_with fail
              go_quiet (fail)
              have b7 := bb.drewN' nq
              generalize wr.drewN nq = w7 at *
              go_wp2_with fail
              go_ret
              exact ⟨by rw [HF.out]; rfl, b7⟩
          · have HF : Hid (smB ps qs = true) := hid (decide_eq_true (by
              have h := H.out
              rwa [List.take_of_length_le (by rw [HN.out]; omega), List.take_of_length_le (by rw [← HL.out]; omega)] at h))
            go_wp2_with fail
            go_ret
            exact ⟨by rw [HF.out]; rfl, bb⟩
  · have HF : Hid (smB ps qs = false) := smB_len hl
    have hl' : ¬ (ps.length : Int) = (qs.length : Int) := by omega
    generalize ps.length = n at *
    generalize qs.length = m at *
    go_enter Tryd.func12, Tryd.ntmps12
    go_wp2_with fail
    go_ret
    exact ⟨by rw [HF.out]; rfl, Below.refl _ _⟩

/-- path.Clean, its parts at an address -/
theorem clean_sl (l : List UInt8) (hl : l.length ≤ 9223372036854775807) (w : World) (hm : Ml w) :
    Calls Tryd.prog 10 #[.string (bs l)] w fun e w' => ∃ ad c, e = .returned (.tuple #[.slice ad (cln l).length c, .int .i64 (err l)]) ∧ (cln l).length ≤ c ∧ c ≤ 9223372036854775807 ∧ Hid (Sl w' ad (cln l)) ∧ Below w.heap.size w w' := by
  refine (clean_w l hl w hm).mono fun e w' ⟨v, he, ho, hb⟩ => ?_
  obtain ⟨ad, c, rfl, hc, hm, hs⟩ := own_sl ho
  exact ⟨ad, c, he, hc, hm, hs, hb⟩

theorem clean1 (w : World) (hm : Ml w) : Calls Tryd.prog 10 #[.string ⟨#[46, 47, 97, 47, 47, 98, 47]⟩] w fun e w' => ∃ ad c, e = .returned (.tuple #[.slice ad 2 c, .int .i64 0]) ∧ 2 ≤ c ∧ c ≤ 9223372036854775807 ∧ Hid (Sl w' ad [[97], [98]]) ∧ Below w.heap.size w w' := by
  have q := clean_sl [46, 47, 97, 47, 47, 98, 47] (by decide) w hm
  have e1 : err [46, 47, 97, 47, 47, 98, 47] = 0 := by decide +kernel
  have e2 : cln [46, 47, 97, 47, 47, 98, 47] = [[97], [98]] := by decide +kernel
  rw [e1, e2] at q
  exact q

theorem clean2 (w : World) (hm : Ml w) : Calls Tryd.prog 10 #[.string ⟨#[97, 47, 46, 46, 47, 98]⟩] w fun e w' => ∃ ad c, e = .returned (.tuple #[.slice ad 0 c, .int .i64 104]) ∧ 0 ≤ c ∧ c ≤ 9223372036854775807 ∧ Hid (Sl w' ad []) ∧ Below w.heap.size w w' := by
  have q := clean_sl [97, 47, 46, 46, 47, 98] (by decide) w hm
  have e1 : err [97, 47, 46, 46, 47, 98] = 104 := by decide +kernel
  have e2 : cln [97, 47, 46, 46, 47, 98] = [] := by decide +kernel
  rw [e1, e2] at q
  exact q

set_option maxHeartbeats 1000000 in
theorem cleans_w (w : World) (hm : Ml w) : Calls Tryd.prog 9 #[] w fun e w' => e = .returned (.bool true) ∧ Below w.heap.size w w' := by
  have q1 := clean1 w hm
  have HQ2 : Hid (∀ W, Below w.heap.size w W → Calls Tryd.prog 10 #[.string ⟨#[97, 47, 46, 46, 47, 98]⟩] W fun e w' => ∃ ad c, e = .returned (.tuple #[.slice ad 0 c, .int .i64 104]) ∧ 0 ≤ c ∧ c ≤ 9223372036854775807 ∧ Hid (Sl w' ad []) ∧ Below W.heap.size W w') := fun W hb => clean2 W (hm.below hb)
  have qj : ∀ ad c W, 2 ≤ c → Sl W ad [[97], [98]] → Calls Tryd.prog 15 #[.slice ad 2 c] W fun e w' => e = .returned (.string ⟨#[97, 47, 98]⟩) ∧ Below W.heap.size W w' := fun ad c W hc hs => by
    have e : jn [[97], [98]] = [97, 47, 98] := by decide +kernel
    have := join_w ad c [[97], [98]] W hs hc (by decide) (by rw [e]; decide)
    rw [e] at this
    exact this
  have qu : ∀ W, Calls Tryd.prog 20 #[.string ⟨#[97]⟩, .string ⟨#[97, 47, 98]⟩] W fun e w' => e = .returned (.bool true) ∧ w' = W := fun W => by
    have e : und [97] [97, 47, 98] = true := by decide +kernel
    have := under_w [97] [97, 47, 98] W
    rw [e] at this
    exact this
  have qc : ∀ W, Calls Tryd.prog 18 #[.string ⟨#[97]⟩, .string ⟨#[97, 47, 98]⟩] W fun e w' => e = .returned (.int .i64 (-1)) ∧ Below W.heap.size W w' := fun W => by
    have e : cmpL [97] [97, 47, 98] = -1 := by decide +kernel
    have := compare_w [97] [97, 47, 98] (by decide) (by decide) W
    rw [e] at this
    exact this
  clear hm
  go_enter Tryd.func9, Tryd.ntmps9
  go_wp2_with (first | (go_at_call 10; refine (HQ2.out _ b1).mono ?_; rintro e w2 ⟨ad2, c2, rfl, hc2, hc2m, hs2, b2⟩) | (go_at_call 10; refine q1.mono ?_; rintro e w1 ⟨ad1, c1, rfl, hc1, hc1m, hs1, b1⟩) | (go_at_call 15; refine (qj _ _ _ hc1 (hs1.out.below b2)).mono ?_; rintro e w3 ⟨rfl, b3⟩) | (go_at_call 20; refine (qu _).mono ?_; rintro e w' ⟨rfl, hw⟩; rw [hw]) | (go_at_call 18; refine (qc _).mono ?_; rintro e w4 ⟨rfl, b4⟩))
  go_ret
  have b12 := b1.trans (b2.mono b1.size)
  have b13 := b12.trans (b3.mono b12.size)
  exact ⟨rfl, b13.trans (b4.mono b13.size)⟩

end Go.Proofs.YtmeaiplinkodiaaDoor
