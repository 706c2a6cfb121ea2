/-
  The walk of FaultFirst.
-/
import Derived.Test.YtamdonhmholjpaaDoorTells
namespace Go.Proofs.YtamdonhmholjpaaDoor.faultFirst
open Go.RowKit

set_option maxRecDepth 100000 in
theorem walk0 (b : Int) (w : World) (hL : Laid w) : Calls Tryd.prog 8 #[.int .i64 0, .int .i64 b] w fun ev w' => ev = .returned (.bool true) ∧ St w w' := by
  go_enter Tryd.func8, Tryd.ntmps8
  go_wp2_with fail
  refine (tells_any _ hL).mono ?_
  rintro ev w0 ⟨rfl, h0⟩
  go_wp2
  go_ret
  exact ⟨rfl, h0⟩

set_option maxRecDepth 100000 in
set_option maxHeartbeats 1000000 in
theorem walk1 (a b : Int) (w : World) (hL : Laid w) (ha : (a == 0) = false) : Calls Tryd.prog 8 #[.int .i64 a, .int .i64 b] w fun ev w' => ev = .returned (.bool true) ∧ St w w' := by
  have ha2 : (!(a == 0) && (a == a)) = true := by simp [ha]
  have c1 : ∀ W, Laid W → Calls Tryd.prog 12 #[.iface 36 (.agg #[.int .i64 b, .iface 24 (.int .i64 a)])] W fun ev w' => ev = .returned (.int .i64 a) ∧ Below W.heap.size W w' := fun W h => code_any (some [b]) a W h
  have p1 : ∀ W, Laid W → Calls Tryd.prog 13 #[.iface 36 (.agg #[.int .i64 a, .iface 36 (.agg #[.int .i64 b, .iface 24 (.int .i64 a)])])] W fun ev w' => ev = .returned (.int .i64 a) ∧ Below W.heap.size W w' := fun W h => place_any (some [a, b]) a W h
  have c2 : ∀ W, Laid W → Calls Tryd.prog 12 #[.iface 36 (.agg #[.int .i64 a, .iface 36 (.agg #[.int .i64 b, .iface 24 (.int .i64 a)])])] W fun ev w' => ev = .returned (.int .i64 a) ∧ Below W.heap.size W w' := fun W h => code_any (some [a, b]) a W h
  have i1 : ∀ W, Calls Tryd.prog 15 #[.iface 36 (.agg #[.int .i64 a, .iface 36 (.agg #[.int .i64 b, .iface 24 (.int .i64 a)])]), .int .i64 a] W fun ev w' => ev = .returned (.bool true) ∧ Below W.heap.size W w' := fun W => (is_any (some [a, b]) a a W).mono fun e w' q => ⟨q.1.trans (by show Ending.returned (.bool (!(a == 0) && (a == a))) = _; rw [ha2]), q.2⟩
  have i2 : ∀ W, Calls Tryd.prog 15 #[.iface 36 (.agg #[.int .i64 a, .iface 36 (.agg #[.int .i64 b, .iface 24 (.int .i64 a)])]), .int .i64 0] W fun ev w' => ev = .returned (.bool false) ∧ Below W.heap.size W w' := fun W => is_any (some [a, b]) a 0 W
  clear ha2
  go_enter Tryd.func8, Tryd.ntmps8
  go_wp2_with fail
  refine (tells_any _ hL).mono ?_
  rintro ev w0 ⟨rfl, h0⟩
  go_wp2_with fail
  refine ((fun W => wrap_iface 24 (.int .i64 a) b W) _).mono ?_
  rintro ev w' ⟨rfl, rfl⟩
  go_wp2_with fail
  refine ((fun W => wrap_iface 36 (.agg #[.int .i64 b, .iface 24 (.int .i64 a)]) a W) _).mono ?_
  rintro ev w' ⟨rfl, rfl⟩
  go_wp2_with fail
  refine (c1 _ h0.1).mono ?_
  rintro ev w1 ⟨rfl, hb⟩
  have h1 := h0.step hb
  clear hb h0
  go_wp2_with fail
  refine (p1 _ h1.1).mono ?_
  rintro ev w2 ⟨rfl, hb⟩
  have h2 := h1.step hb
  clear hb h1
  go_wp2_with fail
  refine (c2 _ h2.1).mono ?_
  rintro ev w3 ⟨rfl, hb⟩
  have h3 := h2.step hb
  clear hb h2
  go_wp2_with fail
  refine (i1 _).mono ?_
  rintro ev w4 ⟨rfl, hb⟩
  have h4 := h3.step hb
  clear hb h3
  go_wp2_with fail
  refine (i2 _).mono ?_
  rintro ev w5 ⟨rfl, hb⟩
  have h5 := h4.step hb
  clear hb h4
  go_wp2
  go_ret
  exact ⟨by simp, h5⟩

theorem walk (a b : Int) (w : World) (hL : Laid w) : Calls Tryd.prog 8 #[.int .i64 a, .int .i64 b] w fun ev w' => ev = .returned (.bool true) ∧ St w w' := by
  by_cases c : a = 0
  · subst c; exact walk0 b w hL
  · exact walk1 a b w hL (by simpa using c)

end Go.Proofs.YtamdonhmholjpaaDoor.faultFirst
