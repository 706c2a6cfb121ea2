/-
  Contract: the law's own cleans.
-/
import Derived.Test.YtmeaiplinkodiabDoorCsl
import Derived.Test.YtmeaiplinkodiabDoorCmp
namespace Go.Proofs.YtmeaiplinkodiabDoor
open Go.RowKit
open Go.Lib hiding intOf
set_option linter.unusedVariables false
set_option linter.unusedSimpArgs false

theorem clean1 (w : World) (hm : Ml w) : Calls Tryd.prog 10 #[.string ⟨#[46, 47, 97, 47, 47, 98, 47]⟩] w fun e w' => ∃ ad c, e = .returned (.tuple #[.slice ad 2 c, .int .i64 0]) ∧ 2 ≤ c ∧ c ≤ 9223372036854775807 ∧ Hid (Sl w' ad [[97], [98]]) ∧ Below w.heap.size w w' := by
  have q := clean_sl [46, 47, 97, 47, 47, 98, 47] (by decide) w hm
  have e1 : err [46, 47, 97, 47, 47, 98, 47] = 0 := by decide +kernel
  have e2 : cln [46, 47, 97, 47, 47, 98, 47] = [[97], [98]] := by decide +kernel
  rw [e1, e2] at q
  exact q

theorem clean2 (w : World) (hm : Ml w) : Calls Tryd.prog 10 #[.string ⟨#[97, 47, 46, 46, 47, 98]⟩] w fun e w' => ∃ ad c, e = .returned (.tuple #[.slice ad 0 c, .int .i64 104]) ∧ 0 ≤ c ∧ c ≤ 9223372036854775807 ∧ Hid (Sl w' ad []) ∧ Below w.heap.size w w' := by
  have q := clean_sl [97, 47, 46, 46, 47, 98] (by decide) w hm
  have e1 : err [97, 47, 46, 46, 47, 98] = 104 := by decide +kernel
  have e2 : cln [97, 47, 46, 46, 47, 98] = [] := by decide +kernel
  rw [e1, e2] at q
  exact q

set_option maxHeartbeats 1000000 in
theorem cleans_w (w : World) (hm : Ml w) : Calls Tryd.prog 9 #[] w fun e w' => e = .returned (.bool true) ∧ Below w.heap.size w w' := by
  have q1 := clean1 w hm
  have HQ2 : Hid (∀ W, Below w.heap.size w W → Calls Tryd.prog 10 #[.string ⟨#[97, 47, 46, 46, 47, 98]⟩] W fun e w' => ∃ ad c, e = .returned (.tuple #[.slice ad 0 c, .int .i64 104]) ∧ 0 ≤ c ∧ c ≤ 9223372036854775807 ∧ Hid (Sl w' ad []) ∧ Below W.heap.size W w') := fun W hb => clean2 W (hm.below hb)
  have qj : ∀ ad c W, 2 ≤ c → Sl W ad [[97], [98]] → Calls Tryd.prog 17 #[.slice ad 2 c] W fun e w' => e = .returned (.string ⟨#[97, 47, 98]⟩) ∧ Below W.heap.size W w' := fun ad c W hc hs => by
    have e : jn [[97], [98]] = [97, 47, 98] := by decide +kernel
    have := join_w ad c [[97], [98]] W hs hc (by decide) (by rw [e]; decide)
    rw [e] at this
    exact this
  have qu : ∀ W, Calls Tryd.prog 19 #[.string ⟨#[97]⟩, .string ⟨#[97, 47, 98]⟩] W fun e w' => e = .returned (.bool true) ∧ w' = W := fun W => by
    have e : und [97] [97, 47, 98] = true := by decide +kernel
    have := under_w [97] [97, 47, 98] W
    rw [e] at this
    exact this
  have qc : ∀ W, Calls Tryd.prog 20 #[.string ⟨#[97]⟩, .string ⟨#[97, 47, 98]⟩] W fun e w' => e = .returned (.int .i64 (-1)) ∧ Below W.heap.size W w' := fun W => by
    have e : cmpL [97] [97, 47, 98] = -1 := by decide +kernel
    have := compare_w [97] [97, 47, 98] (by decide) (by decide) W
    rw [e] at this
    exact this
  clear hm
  go_enter Tryd.func9, Tryd.ntmps9
  go_wp2_with (first | (go_at_call 10; refine (HQ2.out _ b1).mono ?_; rintro e w2 ⟨ad2, c2, rfl, hc2, hc2m, hs2, b2⟩) | (go_at_call 10; refine q1.mono ?_; rintro e w1 ⟨ad1, c1, rfl, hc1, hc1m, hs1, b1⟩) | (go_at_call 17; refine (qj _ _ _ hc1 (hs1.out.below b2)).mono ?_; rintro e w3 ⟨rfl, b3⟩) | (go_at_call 19; refine (qu _).mono ?_; rintro e w' ⟨rfl, hw⟩; rw [hw]) | (go_at_call 20; refine (qc _).mono ?_; rintro e w4 ⟨rfl, b4⟩))
  go_ret
  have b12 := b1.trans (b2.mono b1.size)
  have b13 := b12.trans (b3.mono b12.size)
  exact ⟨rfl, b13.trans (b4.mono b13.size)⟩

end Go.Proofs.YtmeaiplinkodiabDoor
