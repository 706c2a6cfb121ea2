/-
  Usages, limits, and lists of things, that come in.
-/
import Derived.Test.YtpgiibpalmhhlaaGreatDoorLaid
import Derived.Deep.Strs
import Derived.Deep.Slices
namespace Go.Proofs.YtpgiibpalmhhlaaGreatDoor
open Go.ChangeShapes Go.WideShapes Go.RowKit
set_option linter.unusedVariables false
set_option linter.unusedSimpArgs false

theorem laidOut : laidOutB Tryz.prog = true := by kernel_rfl

theorem array4 {cs : Array Value} (h : cs.size = 4) : ∃ c0 c1 c2 c3, cs = #[c0, c1, c2, c3] := by
  obtain ⟨l⟩ := cs
  match l, h with
  | [c0, c1, c2, c3], _ => exact ⟨c0, c1, c2, c3, rfl⟩
theorem list4 {α : Type} {cs : List α} (h : cs.length = 4) : ∃ c0 c1 c2 c3, cs = [c0, c1, c2, c3] := by
  match cs, h with
  | [c0, c1, c2, c3], _ => exact ⟨c0, c1, c2, c3, rfl⟩
theorem array7 {cs : Array Value} (h : cs.size = 7) : ∃ c0 c1 c2 c3 c4 c5 c6, cs = #[c0, c1, c2, c3, c4, c5, c6] := by
  obtain ⟨l⟩ := cs
  match l, h with
  | [c0, c1, c2, c3, c4, c5, c6], _ => exact ⟨c0, c1, c2, c3, c4, c5, c6, rfl⟩
theorem list7 {α : Type} {cs : List α} (h : cs.length = 7) : ∃ c0 c1 c2 c3 c4 c5 c6, cs = [c0, c1, c2, c3, c4, c5, c6] := by
  match cs, h with
  | [c0, c1, c2, c3, c4, c5, c6], _ => exact ⟨c0, c1, c2, c3, c4, c5, c6, rfl⟩

/-- numbers that fit -/
def Fit (z : Int) : Prop := -9223372036854775808 ≤ z ∧ z ≤ 9223372036854775807

set_option maxRecDepth 100000 in
set_option maxHeartbeats 2000000 in
theorem open_use {H : Type} {enc : TypeId × Value → H} {W : World} {base : Nat} {v : Value} {d : DataW H} {p : List MemPlace} (hv : Value.okWide Tryz.prog W .any base 55 v) (h : DataW.Trod enc Tryz.prog W 0 (fun _ => true) true 55 v d p) :
    ∃ b n d l : Int, v = .agg #[.int .i64 b, .int .i64 n, .int .i64 d, .int .i64 l] ∧ Fit b ∧ Fit n ∧ Fit d ∧ Fit l := by
  obtain ⟨cs, rfl, hsz⟩ := okWide_struct Tryz.underlying55 hv
  have hc : Tryz.prog.cellsOf 55 = 4 := by kernel_rfl
  obtain ⟨c0, c1, c2, c3, rfl⟩ := array4 (hsz.trans hc)
  obtain ⟨fuel, hf⟩ := h
  obtain ⟨xs, n, _, hx, _, hlen, hfs⟩ := DataW.trod_struct Tryz.underlying55 hf
  obtain ⟨y0, y1, y2, y3, rfl⟩ := list4 (show xs.length = 4 from hlen)
  have k3 : Tryz.prog.cellsOf 3 = 1 := by kernel_rfl
  have k2 : Tryz.prog.cellsOf 2 = 1 := by kernel_rfl
  have g0 := hfs 0 _ rfl
  simp only [Value.cells, k2, List.drop_succ_cons, List.drop_zero, List.take_succ_cons, List.take_zero, List.getElem?_cons_zero, List.getElem?_cons_succ] at g0
  obtain ⟨z0, e0, r0, b0⟩ := DataW.trod_int Tryz.underlying2 g0
  obtain rfl : c0 = _ := List.head_eq_of_cons_eq e0
  have g1 := hfs 1 _ rfl
  simp only [Value.cells, k3, List.drop_succ_cons, List.drop_zero, List.take_succ_cons, List.take_zero, List.getElem?_cons_zero, List.getElem?_cons_succ] at g1
  obtain ⟨z1, e1, r1, b1⟩ := DataW.trod_int Tryz.underlying3 g1
  obtain rfl : c1 = _ := List.head_eq_of_cons_eq e1
  have g2 := hfs 2 _ rfl
  simp only [Value.cells, k3, List.drop_succ_cons, List.drop_zero, List.take_succ_cons, List.take_zero, List.getElem?_cons_zero, List.getElem?_cons_succ] at g2
  obtain ⟨z2, e2, r2, b2⟩ := DataW.trod_int Tryz.underlying3 g2
  obtain rfl : c2 = _ := List.head_eq_of_cons_eq e2
  have g3 := hfs 3 _ rfl
  simp only [Value.cells, k3, List.drop_succ_cons, List.drop_zero, List.take_succ_cons, List.take_zero, List.getElem?_cons_zero, List.getElem?_cons_succ] at g3
  obtain ⟨z3, e3, r3, b3⟩ := DataW.trod_int Tryz.underlying3 g3
  obtain rfl : c3 = _ := List.head_eq_of_cons_eq e3
  exact ⟨z0, z1, z2, z3, rfl, lit_i64 b0, lit_i64 b1, lit_i64 b2, lit_i64 b3⟩

end Go.Proofs.YtpgiibpalmhhlaaGreatDoor
