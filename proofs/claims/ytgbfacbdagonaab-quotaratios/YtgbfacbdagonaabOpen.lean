/-
  Limits, and two numbers, that come in.
-/
import Derived.Test.YtgbfacbdagonaabQ6
import Derived.ProofKit
import Derived.OpenShut
import Derived.ShutString
import Derived.ChangeOld
import Derived.Deep.Cut
namespace Go.Proofs.Ytgbfacbdagonaab
open Go.ChangeShapes Go.WideShapes Go.ChangeAt Go.RowKit
set_option linter.unusedVariables false
set_option linter.unusedSimpArgs false

theorem i64_of {z : Int} (h : (Lit.int .i64 z).wf = true) : -9223372036854775808 ≤ z ∧ z ≤ 9223372036854775807 := by
  simp only [Lit.wf, IntKind.min, IntKind.max, IntKind.signed, IntKind.bits, Bool.and_eq_true, decide_eq_true_eq, if_true] at h
  omega

theorem array7 {cs : Array Value} (h : cs.size = 7) : ∃ c0 c1 c2 c3 c4 c5 c6, cs = #[c0, c1, c2, c3, c4, c5, c6] := by
  obtain ⟨l⟩ := cs
  match l, h with
  | [c0, c1, c2, c3, c4, c5, c6], _ => exact ⟨c0, c1, c2, c3, c4, c5, c6, rfl⟩
theorem list7 {α : Type} {cs : List α} (h : cs.length = 7) : ∃ c0 c1 c2 c3 c4 c5 c6, cs = [c0, c1, c2, c3, c4, c5, c6] := by
  match cs, h with
  | [c0, c1, c2, c3, c4, c5, c6], _ => exact ⟨c0, c1, c2, c3, c4, c5, c6, rfl⟩

/-- numbers that fit -/
def Fit (z : Int) : Prop := -9223372036854775808 ≤ z ∧ z ≤ 9223372036854775807

set_option maxRecDepth 100000 in
set_option maxHeartbeats 2000000 in
theorem open_lim {H : Type} {enc : TypeId × Value → H} {W : World} {base : Nat} {v : Value} {d : DataW H} {p : List MemPlace} (hv : Value.okWide Try.prog W .any base 23 v) (h : DataW.Trod enc Try.prog W 0 (fun _ => true) true 23 v d p) :
    ∃ b i d l n m a : Int, v = .agg #[.int .i64 b, .int .i64 i, .int .i64 d, .int .i64 l, .int .i64 n, .int .i64 m, .int .i64 a] ∧ Fit b ∧ Fit i ∧ Fit n ∧ Fit m ∧ Fit a := by
  obtain ⟨cs, rfl, hsz⟩ := okWide_struct Try.underlying23 hv
  have hc : Try.prog.cellsOf 23 = 7 := by kernel_rfl
  obtain ⟨c0, c1, c2, c3, c4, c5, c6, rfl⟩ := array7 (hsz.trans hc)
  obtain ⟨fuel, hf⟩ := h
  obtain ⟨xs, n, _, hx, _, hlen, hfs⟩ := DataW.trod_struct Try.underlying23 hf
  obtain ⟨y0, y1, y2, y3, y4, y5, y6, rfl⟩ := list7 (show xs.length = 7 from hlen)
  have k3 : Try.prog.cellsOf 3 = 1 := by kernel_rfl
  have k2 : Try.prog.cellsOf 2 = 1 := by kernel_rfl
  have g0 := hfs 0 _ rfl
  simp only [Value.cells, k2, List.drop_succ_cons, List.drop_zero, List.take_succ_cons, List.take_zero, List.getElem?_cons_zero, List.getElem?_cons_succ] at g0
  obtain ⟨z0, e0, r0, b0⟩ := DataW.trod_int Try.underlying2 g0
  obtain rfl : c0 = _ := List.head_eq_of_cons_eq e0
  have g1 := hfs 1 _ rfl
  simp only [Value.cells, k3, List.drop_succ_cons, List.drop_zero, List.take_succ_cons, List.take_zero, List.getElem?_cons_zero, List.getElem?_cons_succ] at g1
  obtain ⟨z1, e1, r1, b1⟩ := DataW.trod_int Try.underlying3 g1
  obtain rfl : c1 = _ := List.head_eq_of_cons_eq e1
  have g2 := hfs 2 _ rfl
  simp only [Value.cells, k3, List.drop_succ_cons, List.drop_zero, List.take_succ_cons, List.take_zero, List.getElem?_cons_zero, List.getElem?_cons_succ] at g2
  obtain ⟨z2, e2, r2, b2⟩ := DataW.trod_int Try.underlying3 g2
  obtain rfl : c2 = _ := List.head_eq_of_cons_eq e2
  have g3 := hfs 3 _ rfl
  simp only [Value.cells, k3, List.drop_succ_cons, List.drop_zero, List.take_succ_cons, List.take_zero, List.getElem?_cons_zero, List.getElem?_cons_succ] at g3
  obtain ⟨z3, e3, r3, b3⟩ := DataW.trod_int Try.underlying3 g3
  obtain rfl : c3 = _ := List.head_eq_of_cons_eq e3
  have g4 := hfs 4 _ rfl
  simp only [Value.cells, k2, List.drop_succ_cons, List.drop_zero, List.take_succ_cons, List.take_zero, List.getElem?_cons_zero, List.getElem?_cons_succ] at g4
  obtain ⟨z4, e4, r4, b4⟩ := DataW.trod_int Try.underlying2 g4
  obtain rfl : c4 = _ := List.head_eq_of_cons_eq e4
  have g5 := hfs 5 _ rfl
  simp only [Value.cells, k2, List.drop_succ_cons, List.drop_zero, List.take_succ_cons, List.take_zero, List.getElem?_cons_zero, List.getElem?_cons_succ] at g5
  obtain ⟨z5, e5, r5, b5⟩ := DataW.trod_int Try.underlying2 g5
  obtain rfl : c5 = _ := List.head_eq_of_cons_eq e5
  have g6 := hfs 6 _ rfl
  simp only [Value.cells, k2, List.drop_succ_cons, List.drop_zero, List.take_succ_cons, List.take_zero, List.getElem?_cons_zero, List.getElem?_cons_succ] at g6
  obtain ⟨z6, e6, r6, b6⟩ := DataW.trod_int Try.underlying2 g6
  obtain rfl : c6 = _ := List.head_eq_of_cons_eq e6
  exact ⟨z0, z1, z2, z3, z4, z5, z6, rfl, i64_of b0, i64_of b1, i64_of b4, i64_of b5, i64_of b6⟩

theorem open_two {H : Type} {enc : TypeId × Value → H} {W : World} {base b0 : Nat} {r : Reach} {spare : Nat → Bool} {held : Bool} {v : Value} {d : DataW H} {p : List MemPlace}
    (hv : Value.okWide Try.prog W r base 30 v) (h : DataW.Trod enc Try.prog W b0 spare held 30 v d p) : ∃ x y : Int, v = .agg #[.int .i64 x, .int .i64 y] ∧ Fit x ∧ Fit y := by
  have c30 : Try.prog.cellsOf 30 = 2 := by kernel_rfl
  have c2 : Try.prog.cellsOf 2 = 1 := by kernel_rfl
  simp only [Value.okWide, Try.underlying30] at hv
  obtain ⟨cs, rfl, hsz, _⟩ := hv
  rw [c30] at hsz
  obtain ⟨l⟩ := cs
  obtain ⟨c0, c1, rfl⟩ : ∃ c0 c1, l = [c0, c1] := by
    match l, hsz with
    | [c0, c1], _ => exact ⟨c0, c1, rfl⟩
  obtain ⟨fuel, hf⟩ := h
  obtain ⟨xs, m, _, _, _, hl, hall⟩ := DataW.trod_array Try.underlying30 hf
  have e0 := hall 0 (by decide)
  have e1 := hall 1 (by decide)
  rw [c2] at e0 e1
  rw [List.getElem?_eq_getElem (by omega)] at e0 e1
  obtain ⟨x, hx, _, w0⟩ := DataW.trod_int Try.underlying2 e0
  obtain ⟨y, hy, _, w1⟩ := DataW.trod_int Try.underlying2 e1
  simp [Value.cells] at hx hy
  exact ⟨x, y, by rw [hx, hy], i64_of w0, i64_of w1⟩

end Go.Proofs.Ytgbfacbdagonaab
