/-
  The walk of FaultDeep.
-/
import Derived.Test.YtamdonhmholjpaaDoorTells
namespace Go.Proofs.YtamdonhmholjpaaDoor.faultDeep
open Go.RowKit

set_option maxRecDepth 100000 in
theorem walk_out (a b c : Int) (w : World) (hL : Laid w) (h : b < 0 ∨ 100 < b) : Calls Tryd.prog 5 #[.int .i64 a, .int .i64 b, .int .i64 c] w fun ev w' => ev = .returned (.bool true) ∧ St w w' := by
  rcases h with h | h
  · go_enter Tryd.func5, Tryd.ntmps5
    go_wp2_with fail
    refine (tells_any _ hL).mono ?_
    rintro ev w0 ⟨rfl, h0⟩
    go_wp2
    go_ret
    exact ⟨rfl, h0⟩
  · have h' : ¬ b < 0 := by omega
    go_enter Tryd.func5, Tryd.ntmps5
    go_wp2_with fail
    refine (tells_any _ hL).mono ?_
    rintro ev w0 ⟨rfl, h0⟩
    go_wp2
    go_ret
    exact ⟨rfl, h0⟩

set_option maxRecDepth 100000 in
set_option maxHeartbeats 1000000 in
theorem walk_none (d : Nat) (c : Int) (w : World) (hL : Laid w) (hd : d ≤ 100) : Calls Tryd.prog 5 #[.int .i64 0, .int .i64 d, .int .i64 c] w fun ev w' => ev = .returned (.bool true) ∧ St w w' := by
  have d1 : ¬ (d : Int) < 0 := by omega
  have d2 : ¬ 100 < (d : Int) := by omega
  go_enter Tryd.func5, Tryd.ntmps5
  go_wp2_with fail
  refine (tells_any _ hL).mono ?_
  rintro ev w0 ⟨rfl, h0⟩
  go_wp2_with fail
  refine (new_ok 0 _).mono ?_
  rintro ev w' ⟨rfl, rfl⟩
  go_wp2_with fail
  go_loop [7, 21] (fun v i => ∃ k : Nat, k ≤ d ∧ i = .int .i64 k ∧ v = .nilIface) (fun _ i => d - (intOf i).toNat)
  case atStart => exact ⟨0, Nat.zero_le _, rfl, rfl⟩
  case round =>
    obtain ⟨k, hk, rfl, rfl⟩ := hrel
    by_cases e : k < d
    · go_wp2_with fail
      refine (wrap_nil _ _).mono ?_
      rintro ev w' ⟨rfl, rfl⟩
      go_wp2
      go_round
      case rel => exact ⟨k + 1, by omega, by go_num, rfl⟩
      case measure => simp [intOf]; omega
    · go_wp2_with fail
      refine (wrap_nil _ _).mono ?_
      rintro ev w' ⟨rfl, rfl⟩
      go_wp2
      go_ret
      exact ⟨rfl, h0⟩

set_option maxRecDepth 100000 in
set_option maxHeartbeats 1000000 in
theorem walk_some (a c : Int) (d : Nat) (w : World) (hL : Laid w) (ha : (a == 0) = false) (hd : d ≤ 100) : Calls Tryd.prog 5 #[.int .i64 a, .int .i64 d, .int .i64 c] w fun ev w' => ev = .returned (.bool true) ∧ St w w' := by
  have d1 : ¬ (d : Int) < 0 := by omega
  have d2 : ¬ 100 < (d : Int) := by omega
  go_enter Tryd.func5, Tryd.ntmps5
  go_wp2_with fail
  refine (tells_any _ hL).mono ?_
  rintro ev w0 ⟨rfl, h0⟩
  go_wp2_with fail
  refine (new_any a 0 _ ha).mono ?_
  rintro ev w' ⟨rfl, rfl⟩
  go_wp2_with fail
  go_loop [7, 21] (fun v i => ∃ (k : Nat) (l : List Int), k ≤ d ∧ i = .int .i64 k ∧ v = chain a l ∧ l.length = k + 1) (fun _ i => d - (intOf i).toNat)
  case atStart => exact ⟨0, [0], Nat.zero_le _, rfl, rfl, rfl⟩
  case round =>
    obtain ⟨k, l, hk, rfl, rfl, hl⟩ := hrel
    by_cases e : k < d
    · go_wp2_with fail
      refine (wrap_any l a _ _).mono ?_
      rintro ev w' ⟨rfl, rfl⟩
      go_wp2
      go_round
      case rel => exact ⟨k + 1, (k : Int) :: l, by omega, by go_num, rfl, by simp [hl]⟩
      case measure => simp [intOf]; omega
    · obtain rfl : k = d := by omega
      have n1 : ∀ W, Laid W → Calls Tryd.prog 12 #[chain a (c :: l)] W fun ev w' => ev = .returned (.int .i64 a) ∧ Below W.heap.size W w' := fun W h => code_any (some (c :: l)) a W h
      have n2 : ∀ W, Calls Tryd.prog 14 #[chain a (c :: l)] W fun ev w' => ev = .returned (.int .i64 ((k : Int) + 1 + 1)) ∧ Below W.heap.size W w' := fun W => (depth_any (some (c :: l)) a W (by simp [left]; omega)).mono fun e w' q => ⟨q.1.trans (by simp [left, hl]), q.2⟩
      have n3 : ∀ W, Calls Tryd.prog 14 #[chain a l] W fun ev w' => ev = .returned (.int .i64 ((k : Int) + 1)) ∧ Below W.heap.size W w' := fun W => (depth_any (some l) a W (by simp [left]; omega)).mono fun e w' q => ⟨q.1.trans (by simp [left, hl]), q.2⟩
      have n4 : ∀ W, Laid W → Calls Tryd.prog 13 #[chain a (c :: l)] W fun ev w' => ev = .returned (.int .i64 c) ∧ Below W.heap.size W w' := fun W h => place_any (some (c :: l)) a W h
      clear hl
      go_wp2_with fail
      refine (wrap_any l a _ _).mono ?_
      rintro ev w' ⟨rfl, rfl⟩
      generalize hq : chain a (c :: l) = q at *
      clear hq
      go_wp2_with fail
      refine (n1 _ h0.1).mono ?_
      rintro ev w1 ⟨rfl, hb⟩
      have h1 := h0.step hb
      clear hb h0
      go_wp2_with fail
      refine (n2 _).mono ?_
      rintro ev w2 ⟨rfl, hb⟩
      have h2 := h1.step hb
      clear hb h1
      go_wp2_with fail
      refine (n3 _).mono ?_
      rintro ev w3 ⟨rfl, hb⟩
      have h3 := h2.step hb
      clear hb h2
      go_wp2_with fail
      refine (n3 _).mono ?_
      rintro ev w4 ⟨rfl, hb⟩
      have h4 := h3.step hb
      clear hb h3
      go_wp2_with fail
      refine (n4 _ h4.1).mono ?_
      rintro ev w5 ⟨rfl, hb⟩
      have h5 := h4.step hb
      clear hb h4
      go_wp2
      go_ret
      exact ⟨by simp, h5⟩

theorem walk (a b c : Int) (w : World) (hL : Laid w) : Calls Tryd.prog 5 #[.int .i64 a, .int .i64 b, .int .i64 c] w fun ev w' => ev = .returned (.bool true) ∧ St w w' := by
  by_cases h : b < 0 ∨ 100 < b
  · exact walk_out a b c w hL h
  · obtain ⟨d, rfl⟩ : ∃ d : Nat, b = d := ⟨b.toNat, by omega⟩
    by_cases e : a = 0
    · subst e; exact walk_none d c w hL (by omega)
    · exact walk_some a c d w hL (by simpa using e) (by omega)

end Go.Proofs.YtamdonhmholjpaaDoor.faultDeep
