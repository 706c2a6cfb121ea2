/-
  The head of each law: 'tells' returns true where errors.errorType is as the program's text lays it.
-/
import Derived.Test.YtamdonhmholjpaaDoorCode
namespace Go.Proofs.YtamdonhmholjpaaDoor
open Go.RowKit

/-- From w on nothing that was there has turned, and errors.errorType is as it was laid. -/
def St (w wr : World) : Prop := Laid wr ∧ Below w.heap.size w wr

theorem St.start {w : World} (h : Laid w) : St w w := ⟨h, Below.refl _ _⟩
theorem St.step {w a b : World} (h : St w a) (hb : Below a.heap.size a b) : St w b := ⟨h.1.below hb, h.2.trans (hb.mono h.2.size)⟩

theorem neq_nil (t : TypeId) (x : Value) (w : World) : (binOp .neq 26 (.iface t x) .nilIface).run Tryd.prog w = .ok (.bool true) w := by
  have h : ∀ d : Nat, (Op.equalIn (d + 1) 26 (.iface t x) .nilIface).run Tryd.prog w = .ok false w := fun d => by simp [Op.equalIn, run_underlying Tryd.underlying26]
  simp only [binOp]
  simp [Op.equal, Op.maxDepth, h 9999]

set_option maxRecDepth 100000 in
theorem tells_any (w : World) (hL : Laid w) : Calls Tryd.prog 9 #[] w fun ev w' => ev = .returned (.bool true) ∧ St w w' := by
  have f := neq_nil
  have h0 := St.start hL
  have n1 : ∀ W, Calls Tryd.prog 10 #[.int .i64 50, .int .i64 7] W fun ev w' => ev = .returned (.iface 36 (.agg #[.int .i64 7, .iface 24 (.int .i64 50)])) ∧ W = w' := fun W => new_any 50 7 W rfl
  have n2 : ∀ W, Laid W → Calls Tryd.prog 12 #[.iface 36 (.agg #[.int .i64 7, .iface 24 (.int .i64 50)])] W fun ev w' => ev = .returned (.int .i64 50) ∧ Below W.heap.size W w' := fun W h => code_any (some [7]) 50 W h
  have n3 : ∀ W, Laid W → Calls Tryd.prog 13 #[.iface 36 (.agg #[.int .i64 7, .iface 24 (.int .i64 50)])] W fun ev w' => ev = .returned (.int .i64 7) ∧ Below W.heap.size W w' := fun W h => place_any (some [7]) 50 W h
  have n4 : ∀ W, Calls Tryd.prog 15 #[.iface 36 (.agg #[.int .i64 7, .iface 24 (.int .i64 50)]), .int .i64 50] W fun ev w' => ev = .returned (.bool true) ∧ Below W.heap.size W w' := fun W => is_any (some [7]) 50 50 W
  have n5 : ∀ W, Calls Tryd.prog 14 #[.iface 36 (.agg #[.int .i64 7, .iface 24 (.int .i64 50)])] W fun ev w' => ev = .returned (.int .i64 1) ∧ Below W.heap.size W w' := fun W => depth_any (some [7]) 50 W (by decide)
  go_enter Tryd.func9, Tryd.ntmps9
  go_wp2_with fail
  refine (n1 _).mono ?_
  rintro ev w' ⟨rfl, rfl⟩
  go_wp2_with fail
  refine (n2 _ h0.1).mono ?_
  rintro ev w1 ⟨rfl, hb⟩
  have h1 := h0.step hb
  clear hb h0
  go_wp2_with fail
  refine (n3 _ h1.1).mono ?_
  rintro ev w2 ⟨rfl, hb⟩
  have h2 := h1.step hb
  clear hb h1
  go_wp2_with fail
  refine (n4 _).mono ?_
  rintro ev w3 ⟨rfl, hb⟩
  have h3 := h2.step hb
  clear hb h2
  go_wp2_with fail
  refine (n5 _).mono ?_
  rintro ev w4 ⟨rfl, hb⟩
  have h4 := h3.step hb
  clear hb h3
  go_wp2
  go_ret
  exact ⟨rfl, h4⟩

end Go.Proofs.YtamdonhmholjpaaDoor
