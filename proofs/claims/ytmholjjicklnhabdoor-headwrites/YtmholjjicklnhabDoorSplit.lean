/-
  Contract: head.Split, over where the slash stands.
-/
import Derived.Test.YtmholjjicklnhabDoorNul
namespace Go.Proofs.YtmholjjicklnhabDoor
open Go.RowKit
set_option linter.unusedVariables false
set_option linter.unusedSimpArgs false

set_option maxHeartbeats 1000000 in
theorem split_nul (s : ByteArray) (w : World) (h : s.toList.isEmpty = true ∨ hasN s = true) (hl : s.size ≤ 3000) :
    Calls Tryd.prog 16 #[.string s] w fun e w' => e = .returned (.tuple #[.string ⟨#[]⟩, .string ⟨#[]⟩, .bool false]) ∧ w = w' := by
  have q := hasNul_w s w
  cases hE : s.toList.isEmpty with
  | true =>
    go_enter Tryd.func16, Tryd.ntmps16
    go_wp2
    go_ret3
    exact ⟨rfl, rfl⟩
  | false =>
    have hN : hasN s = true := by
      rcases h with h | h
      · rw [hE] at h; cases h
      · exact h
    rw [hN] at q
    clear h hN
    go_enter Tryd.func16, Tryd.ntmps16
    go_wp2_with fail
    refine q.mono ?_
    rintro e w' ⟨rfl, rfl⟩
    go_wp2
    go_ret3
    exact ⟨rfl, rfl⟩

set_option maxHeartbeats 1000000 in
theorem split_short (s : ByteArray) (w : World) (hE : s.toList.isEmpty = false) (hN : hasN s = false) (hl : s.size ≤ 100) :
    Calls Tryd.prog 16 #[.string s] w fun e w' => e = .returned (.tuple #[.string ⟨#[]⟩, .string s, .bool true]) ∧ w = w' := by
  have q := hasNul_w s w
  rw [hN] at q
  have c1 : (s.size : Int) ≤ 100 := by omega
  clear hN
  go_enter Tryd.func16, Tryd.ntmps16
  go_wp2_with fail
  refine q.mono ?_
  rintro e w' ⟨rfl, rfl⟩
  go_wp2
  go_ret3
  exact ⟨rfl, rfl⟩

end Go.Proofs.YtmholjjicklnhabDoor
