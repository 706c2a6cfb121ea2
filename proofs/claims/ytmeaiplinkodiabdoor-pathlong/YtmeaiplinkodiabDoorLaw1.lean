/-
  Contracts: the laws' own points and clean.
-/
import Derived.Test.YtmeaiplinkodiabDoorRel2
import Derived.Test.YtmeaiplinkodiabDoorCsl
namespace Go.Proofs.YtmeaiplinkodiabDoor
open Go.RowKit
open Go.Lib hiding intOf
set_option linter.unusedVariables false
set_option linter.unusedSimpArgs false

theorem res1 (w : World) (hm : Ml w) : Calls Tryd.prog 13 #[.string ⟨#[97, 47, 98]⟩, .string ⟨#[46, 46, 47, 99]⟩] w fun e w' => e = .returned (.tuple #[.string ⟨#[97, 47, 99]⟩, .int .i64 0]) ∧ Below w.heap.size w w' := by
  have q := resolve_w [97, 47, 98] [46, 46, 47, 99] (by decide) (by decide) w hm
  have e : rsv [97, 47, 98] [46, 46, 47, 99] = ([97, 47, 99], 0) := by decide +kernel
  rw [e] at q
  exact q

theorem res2 (w : World) (hm : Ml w) : Calls Tryd.prog 13 #[.string ⟨#[97]⟩, .string ⟨#[46, 46, 47, 46, 46, 47, 99]⟩] w fun e w' => e = .returned (.tuple #[.string ⟨#[]⟩, .int .i64 110]) ∧ Below w.heap.size w w' := by
  have q := resolve_w [97] [46, 46, 47, 46, 46, 47, 99] (by decide) (by decide) w hm
  have e : rsv [97] [46, 46, 47, 46, 46, 47, 99] = ([], 110) := by decide +kernel
  rw [e] at q
  exact q

theorem rel1 (w : World) (hm : Ml w) : Calls Tryd.prog 18 #[.string ⟨#[97, 47, 98]⟩, .string ⟨#[97, 47, 99]⟩] w fun e w' => e = .returned (.string ⟨#[46, 46, 47, 99]⟩) ∧ Below w.heap.size w w' := by
  have q := relative_w [97, 47, 98] [97, 47, 99] (by decide) (by decide) w hm
  have e : rel (prt [97, 47, 98]) (prt [97, 47, 99]) = [46, 46, 47, 99] := by decide +kernel
  rw [e] at q
  exact q

set_option maxHeartbeats 1000000 in
theorem points_w (w : World) (hm : Ml w) : Calls Tryd.prog 11 #[] w fun e w' => e = .returned (.bool true) ∧ Below w.heap.size w w' := by
  have q1 := res1 w hm
  have KQ2 : Hid (∀ W, Below w.heap.size w W → Calls Tryd.prog 13 #[.string ⟨#[97]⟩, .string ⟨#[46, 46, 47, 46, 46, 47, 99]⟩] W fun e w' => e = .returned (.tuple #[.string ⟨#[]⟩, .int .i64 110]) ∧ Below W.heap.size W w') := fun W hb => res2 W (hm.below hb)
  have KQ3 : Hid (∀ W, Below w.heap.size w W → Calls Tryd.prog 18 #[.string ⟨#[97, 47, 98]⟩, .string ⟨#[97, 47, 99]⟩] W fun e w' => e = .returned (.string ⟨#[46, 46, 47, 99]⟩) ∧ Below W.heap.size W w') := fun W hb => rel1 W (hm.below hb)
  clear hm
  go_enter Tryd.func11, Tryd.ntmps11
  go_wp2_with (first
    | (go_at_call 18; refine (KQ3.out _ b02).mono ?_; rintro e w3 ⟨rfl, b3⟩; have b03 := b02.trans (b3.mono b02.size))
    | (go_at_call 13; refine (KQ2.out _ b1).mono ?_; rintro e w2 ⟨rfl, b2⟩; have b02 := b1.trans (b2.mono b1.size))
    | (go_at_call 13; refine q1.mono ?_; rintro e w1 ⟨rfl, b1⟩))
  go_ret
  exact ⟨rfl, b03⟩

theorem cln_len0 (l : List UInt8) : (cln l).length ≤ 4001 ∧ (jn (cln l)).length ≤ 4000 := by
  unfold cln
  split
  · rename_i h
    have hl4 : l.length ≤ 4000 := ((snd_zero l).1 ((err_zero l).1 h).1).2.1
    have h1 : (parts l).length ≤ (spl l).length := List.length_filter_le _ _
    have h2 := spl_len_le l
    have h3 := jn_parts_length l
    omega
  · simp [jn_nil]

/-- is a text a path that is tried? -/
def okP (l : List UInt8) : Bool := decide (err l = 0 ∧ l.length ≤ 1000)

set_option maxHeartbeats 1000000 in
theorem cleanp_w (l : List UInt8) (hl : l.length ≤ 9223372036854775807) (w : World) (hm : Ml w) :
    Calls Tryd.prog 12 #[.string (bs l)] w fun e w' => e = .returned (.tuple #[.string (bs (jn (cln l))), .bool (okP l)]) ∧ Below w.heap.size w w' := by
  have q1 := clean_sl l hl w hm
  obtain ⟨hc1, hc2⟩ := cln_len0 l
  have KJ : Hid (∀ W ad c, Sl W ad (cln l) → (cln l).length ≤ c → Calls Tryd.prog 17 #[.slice ad (cln l).length c] W fun e w' => e = .returned (.string (bs (jn (cln l)))) ∧ Below W.heap.size W w') := fun W ad c hs hc => join_w ad c (cln l) W hs hc (by omega) (by omega)
  have z := bs_size l
  clear hm
  generalize jn (cln l) = J at *
  generalize cln l = ps at *
  generalize ps.length = n at *
  by_cases h0 : err l = 0
  · rw [h0] at q1
    by_cases h1 : l.length ≤ 1000
    · have HF : Hid (okP l = true) := hid (decide_eq_true ⟨h0, h1⟩)
      have g1 : decide ((l.length : Int) ≤ 1000) = true := decide_eq_true (by omega)
      clear h0
      go_enter Tryd.func12, Tryd.ntmps12
      go_wp2_with (first
        | (go_at_call 17; refine (KJ.out _ _ _ hs1.out hc1).mono ?_; rintro e w2 ⟨rfl, b2⟩; have b02 := b1.trans (b2.mono b1.size))
        | (go_at_call 10; refine q1.mono ?_; rintro e w1 ⟨ad1, c1, rfl, hc1, hm1, hs1, b1⟩))
      go_ret2
      exact ⟨by rw [HF.out]; rfl, b02⟩
    · have HF : Hid (okP l = false) := hid (decide_eq_false fun h => h1 h.2)
      have g1 : decide ((l.length : Int) ≤ 1000) = false := decide_eq_false (by omega)
      clear h0
      go_enter Tryd.func12, Tryd.ntmps12
      go_wp2_with (first
        | (go_at_call 17; refine (KJ.out _ _ _ hs1.out hc1).mono ?_; rintro e w2 ⟨rfl, b2⟩; have b02 := b1.trans (b2.mono b1.size))
        | (go_at_call 10; refine q1.mono ?_; rintro e w1 ⟨ad1, c1, rfl, hc1, hm1, hs1, b1⟩))
      go_ret2
      exact ⟨by rw [HF.out]; rfl, b02⟩
  · have HF : Hid (okP l = false) := hid (decide_eq_false fun h => h0 h.1)
    generalize err l = y at *
    go_enter Tryd.func12, Tryd.ntmps12
    go_wp2_with (first
      | (go_at_call 17; refine (KJ.out _ _ _ hs1.out hc1).mono ?_; rintro e w2 ⟨rfl, b2⟩; have b02 := b1.trans (b2.mono b1.size))
      | (go_at_call 10; refine q1.mono ?_; rintro e w1 ⟨ad1, c1, rfl, hc1, hm1, hs1, b1⟩))
    go_ret2
    exact ⟨by rw [HF.out]; rfl, b02⟩

theorem ok_good (l : List UInt8) (h : okP l = true) : (∀ p ∈ cln l, Good p) ∧ (jn (cln l)).length ≤ 1000 := by
  have h' : err l = 0 ∧ l.length ≤ 1000 := of_decide_eq_true h
  unfold cln
  rw [if_pos h'.1]
  exact ⟨parts_good l h'.1, by have := jn_parts_length l; omega⟩

end Go.Proofs.YtmeaiplinkodiabDoor
