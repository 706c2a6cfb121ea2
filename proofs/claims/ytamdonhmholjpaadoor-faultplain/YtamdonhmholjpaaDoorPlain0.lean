/-
  The walk of FaultPlain.
-/
import Derived.Test.YtamdonhmholjpaaDoorTells
namespace Go.Proofs.YtamdonhmholjpaaDoor.faultPlain
open Go.RowKit

set_option maxRecDepth 100000 in
theorem walk0 (b c : Int) (w : World) (hL : Laid w) : Calls Tryd.prog 4 #[.int .i64 0, .int .i64 b, .int .i64 c] w fun ev w' => ev = .returned (.bool true) ∧ St w w' := by
  go_enter Tryd.func4, Tryd.ntmps4
  go_wp2_with fail
  refine (tells_any _ hL).mono ?_
  rintro ev w0 ⟨rfl, h0⟩
  go_wp2
  go_ret
  exact ⟨rfl, h0⟩

set_option maxRecDepth 100000 in
set_option maxHeartbeats 1000000 in
theorem walk1 (a b c : Int) (w : World) (hL : Laid w) (ha : (a == 0) = false) : Calls Tryd.prog 4 #[.int .i64 a, .int .i64 b, .int .i64 c] w fun ev w' => ev = .returned (.bool true) ∧ St w w' := by
  have ha2 : (!(a == 0) && (a == a)) = true := by simp [ha]
  have c1 : ∀ W, Laid W → Calls Tryd.prog 12 #[.iface 24 (.int .i64 a)] W fun ev w' => ev = .returned (.int .i64 a) ∧ Below W.heap.size W w' := fun W h => code_any (some []) a W h
  have p1 : ∀ W, Laid W → Calls Tryd.prog 13 #[.iface 24 (.int .i64 a)] W fun ev w' => ev = .returned (.int .i64 (-1)) ∧ Below W.heap.size W w' := fun W h => place_any (some []) a W h
  have d1 : ∀ W, Calls Tryd.prog 14 #[.iface 24 (.int .i64 a)] W fun ev w' => ev = .returned (.int .i64 0) ∧ Below W.heap.size W w' := fun W => depth_any (some []) a W (by decide)
  have i1 : ∀ W, Calls Tryd.prog 15 #[.iface 24 (.int .i64 a), .int .i64 a] W fun ev w' => ev = .returned (.bool true) ∧ Below W.heap.size W w' := fun W => (is_any (some []) a a W).mono fun e w' q => ⟨q.1.trans (by show Ending.returned (.bool (!(a == 0) && (a == a))) = _; rw [ha2]), q.2⟩
  have c2 : ∀ W, Laid W → Calls Tryd.prog 12 #[.iface 36 (.agg #[.int .i64 c, .iface 24 (.int .i64 a)])] W fun ev w' => ev = .returned (.int .i64 a) ∧ Below W.heap.size W w' := fun W h => code_any (some [c]) a W h
  have p2 : ∀ W, Laid W → Calls Tryd.prog 13 #[.iface 36 (.agg #[.int .i64 c, .iface 24 (.int .i64 a)])] W fun ev w' => ev = .returned (.int .i64 c) ∧ Below W.heap.size W w' := fun W h => place_any (some [c]) a W h
  have d2 : ∀ W, Calls Tryd.prog 14 #[.iface 36 (.agg #[.int .i64 c, .iface 24 (.int .i64 a)])] W fun ev w' => ev = .returned (.int .i64 1) ∧ Below W.heap.size W w' := fun W => depth_any (some [c]) a W (by simp [left])
  have i2 : ∀ W, Calls Tryd.prog 15 #[.iface 36 (.agg #[.int .i64 c, .iface 24 (.int .i64 a)]), .int .i64 b] W fun ev w' => ev = .returned (.bool (isIn a b (some [c]))) ∧ Below W.heap.size W w' := fun W => is_any (some [c]) a b W
  clear ha2
  have hI : isIn a b (some [c]) = (!(b == 0) && (a == b)) := rfl
  go_enter Tryd.func4, Tryd.ntmps4
  go_wp2_with fail
  refine (tells_any _ hL).mono ?_
  rintro ev w0 ⟨rfl, h0⟩
  go_wp2_with fail
  refine ((fun W => wrap_iface 24 (.int .i64 a) c W) _).mono ?_
  rintro ev w' ⟨rfl, rfl⟩
  go_wp2_with fail
  refine (c1 _ h0.1).mono ?_
  rintro ev w1 ⟨rfl, hb⟩
  have h1 := h0.step hb
  clear hb h0
  go_wp2_with fail
  refine (p1 _ h1.1).mono ?_
  rintro ev w2 ⟨rfl, hb⟩
  have h2 := h1.step hb
  clear hb h1
  go_wp2_with fail
  refine (d1 _).mono ?_
  rintro ev w3 ⟨rfl, hb⟩
  have h3 := h2.step hb
  clear hb h2
  go_wp2_with fail
  refine (i1 _).mono ?_
  rintro ev w4 ⟨rfl, hb⟩
  have h4 := h3.step hb
  clear hb h3
  go_wp2_with fail
  refine (c2 _ h4.1).mono ?_
  rintro ev w5 ⟨rfl, hb⟩
  have h5 := h4.step hb
  clear hb h4
  go_wp2_with fail
  refine (p2 _ h5.1).mono ?_
  rintro ev w6 ⟨rfl, hb⟩
  have h6 := h5.step hb
  clear hb h5
  go_wp2_with fail
  refine (d2 _).mono ?_
  rintro ev w7 ⟨rfl, hb⟩
  have h7 := h6.step hb
  clear hb h6
  go_wp2_with fail
  refine (i2 _).mono ?_
  rintro ev w8 ⟨rfl, hb⟩
  have h8 := h7.step hb
  clear hb h7
  by_cases d1 : b = a
  · subst d1
    have e1 : isIn b b (some [c]) = true := by rw [hI, ha]; simp
    have e2 : (b != 0) = true := by simp at ha ⊢; exact ha
    clear hI
    go_wp2
    go_ret
    exact ⟨by simp, h8⟩
  · have e1 : isIn a b (some [c]) = false := by rw [hI]; simp; intro _ h; exact d1 h.symm
    have e2 : (b == a) = false := by simpa using d1
    clear hI
    go_wp2
    go_ret
    exact ⟨by simp, h8⟩

theorem walk (a b c : Int) (w : World) (hL : Laid w) : Calls Tryd.prog 4 #[.int .i64 a, .int .i64 b, .int .i64 c] w fun ev w' => ev = .returned (.bool true) ∧ St w w' := by
  by_cases d : a = 0
  · subst d; exact walk0 b c w hL
  · exact walk1 a b c w hL (by simpa using d)

end Go.Proofs.YtamdonhmholjpaaDoor.faultPlain
