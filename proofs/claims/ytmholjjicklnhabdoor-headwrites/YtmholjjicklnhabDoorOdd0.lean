/-
  Headers that came in, by value, opened; a sealed block with one byte another one.
-/
import Derived.Test.YtmholjjicklnhabDoorReads
import Derived.OpenShut
import Derived.Lib.SmallJoins
namespace Go.Proofs.YtmholjjicklnhabDoor
open Go.ChangeShapes Go.WideShapes Go.RowKit
set_option linter.unusedVariables false
set_option linter.unusedSimpArgs false

theorem array12_hd {α : Type} {cs : Array α} (h : cs.size = 12) : ∃ c0 c1 c2 c3 c4 c5 c6 c7 c8 c9 c10 c11, cs = #[c0, c1, c2, c3, c4, c5, c6, c7, c8, c9, c10, c11] := by
  obtain ⟨l⟩ := cs
  match l, h with
  | [c0, c1, c2, c3, c4, c5, c6, c7, c8, c9, c10, c11], _ => exact ⟨c0, c1, c2, c3, c4, c5, c6, c7, c8, c9, c10, c11, rfl⟩
theorem list12_hd {α : Type} {cs : List α} (h : cs.length = 12) : ∃ c0 c1 c2 c3 c4 c5 c6 c7 c8 c9 c10 c11, cs = [c0, c1, c2, c3, c4, c5, c6, c7, c8, c9, c10, c11] := by
  match cs, h with
  | [c0, c1, c2, c3, c4, c5, c6, c7, c8, c9, c10, c11], _ => exact ⟨c0, c1, c2, c3, c4, c5, c6, c7, c8, c9, c10, c11, rfl⟩
def rng (z : Int) : Prop := -9223372036854775808 ≤ z ∧ z ≤ 9223372036854775807

set_option maxRecDepth 100000 in
set_option maxHeartbeats 2000000 in
theorem open_hd {H : Type} {enc : TypeId × Value → H} {W : World} {base : Nat} {v : Value} {d : DataW H} {p : List MemPlace} (hv : Value.okWide Tryd.prog W .any base 25 v) (h : DataW.Trod enc Tryd.prog W 0 (fun _ => true) true 25 v d p) : ∃ (f : Int) (n l q u r : ByteArray) (ty a b c e m : Int), v = .agg (hcells f n l q u r ty a b c e m) ∧ ((0 ≤ ty ∧ ty ≤ 255) ∧ rng a ∧ rng b ∧ rng c ∧ rng e ∧ rng m) := by
  obtain ⟨cs, rfl, hsz⟩ := okWide_struct Tryd.underlying25 hv
  have hc : Tryd.prog.cellsOf 25 = 12 := by kernel_rfl
  obtain ⟨c0, c1, c2, c3, c4, c5, c6, c7, c8, c9, c10, c11, rfl⟩ := array12_hd (hsz.trans hc)
  obtain ⟨fuel, hf⟩ := h
  obtain ⟨xs, n, _, hx, _, hlen, hfs⟩ := DataW.trod_struct Tryd.underlying25 hf
  obtain ⟨y0, y1, y2, y3, y4, y5, y6, y7, y8, y9, y10, y11, rfl⟩ := list12_hd (show xs.length = 12 from hlen)
  have k3 : Tryd.prog.cellsOf 3 = 1 := by kernel_rfl
  have k9 : Tryd.prog.cellsOf 9 = 1 := by kernel_rfl
  have k5 : Tryd.prog.cellsOf 5 = 1 := by kernel_rfl
  have k2 : Tryd.prog.cellsOf 2 = 1 := by kernel_rfl
  have g0 := hfs 0 _ rfl
  simp only [Value.cells, k3, List.drop_succ_cons, List.drop_zero, List.take_succ_cons, List.take_zero, List.getElem?_cons_zero, List.getElem?_cons_succ] at g0
  obtain ⟨z0, e0, _, b0⟩ := DataW.trod_int Tryd.underlying3 g0
  obtain rfl : c0 = _ := List.head_eq_of_cons_eq e0
  have g1 := hfs 1 _ rfl
  simp only [Value.cells, k9, List.drop_succ_cons, List.drop_zero, List.take_succ_cons, List.take_zero, List.getElem?_cons_zero, List.getElem?_cons_succ] at g1
  obtain ⟨z1, e1, _, b1⟩ := DataW.trod_string Tryd.underlying9 g1
  obtain rfl : c1 = _ := List.head_eq_of_cons_eq e1
  have g2 := hfs 2 _ rfl
  simp only [Value.cells, k9, List.drop_succ_cons, List.drop_zero, List.take_succ_cons, List.take_zero, List.getElem?_cons_zero, List.getElem?_cons_succ] at g2
  obtain ⟨z2, e2, _, b2⟩ := DataW.trod_string Tryd.underlying9 g2
  obtain rfl : c2 = _ := List.head_eq_of_cons_eq e2
  have g3 := hfs 3 _ rfl
  simp only [Value.cells, k9, List.drop_succ_cons, List.drop_zero, List.take_succ_cons, List.take_zero, List.getElem?_cons_zero, List.getElem?_cons_succ] at g3
  obtain ⟨z3, e3, _, b3⟩ := DataW.trod_string Tryd.underlying9 g3
  obtain rfl : c3 = _ := List.head_eq_of_cons_eq e3
  have g4 := hfs 4 _ rfl
  simp only [Value.cells, k9, List.drop_succ_cons, List.drop_zero, List.take_succ_cons, List.take_zero, List.getElem?_cons_zero, List.getElem?_cons_succ] at g4
  obtain ⟨z4, e4, _, b4⟩ := DataW.trod_string Tryd.underlying9 g4
  obtain rfl : c4 = _ := List.head_eq_of_cons_eq e4
  have g5 := hfs 5 _ rfl
  simp only [Value.cells, k9, List.drop_succ_cons, List.drop_zero, List.take_succ_cons, List.take_zero, List.getElem?_cons_zero, List.getElem?_cons_succ] at g5
  obtain ⟨z5, e5, _, b5⟩ := DataW.trod_string Tryd.underlying9 g5
  obtain rfl : c5 = _ := List.head_eq_of_cons_eq e5
  have g6 := hfs 6 _ rfl
  simp only [Value.cells, k5, List.drop_succ_cons, List.drop_zero, List.take_succ_cons, List.take_zero, List.getElem?_cons_zero, List.getElem?_cons_succ] at g6
  obtain ⟨z6, e6, _, b6⟩ := DataW.trod_int Tryd.underlying5 g6
  obtain rfl : c6 = _ := List.head_eq_of_cons_eq e6
  have g7 := hfs 7 _ rfl
  simp only [Value.cells, k2, List.drop_succ_cons, List.drop_zero, List.take_succ_cons, List.take_zero, List.getElem?_cons_zero, List.getElem?_cons_succ] at g7
  obtain ⟨z7, e7, _, b7⟩ := DataW.trod_int Tryd.underlying2 g7
  obtain rfl : c7 = _ := List.head_eq_of_cons_eq e7
  have g8 := hfs 8 _ rfl
  simp only [Value.cells, k2, List.drop_succ_cons, List.drop_zero, List.take_succ_cons, List.take_zero, List.getElem?_cons_zero, List.getElem?_cons_succ] at g8
  obtain ⟨z8, e8, _, b8⟩ := DataW.trod_int Tryd.underlying2 g8
  obtain rfl : c8 = _ := List.head_eq_of_cons_eq e8
  have g9 := hfs 9 _ rfl
  simp only [Value.cells, k2, List.drop_succ_cons, List.drop_zero, List.take_succ_cons, List.take_zero, List.getElem?_cons_zero, List.getElem?_cons_succ] at g9
  obtain ⟨z9, e9, _, b9⟩ := DataW.trod_int Tryd.underlying2 g9
  obtain rfl : c9 = _ := List.head_eq_of_cons_eq e9
  have g10 := hfs 10 _ rfl
  simp only [Value.cells, k2, List.drop_succ_cons, List.drop_zero, List.take_succ_cons, List.take_zero, List.getElem?_cons_zero, List.getElem?_cons_succ] at g10
  obtain ⟨z10, e10, _, b10⟩ := DataW.trod_int Tryd.underlying2 g10
  obtain rfl : c10 = _ := List.head_eq_of_cons_eq e10
  have g11 := hfs 11 _ rfl
  simp only [Value.cells, k2, List.drop_succ_cons, List.drop_zero, List.take_succ_cons, List.take_zero, List.getElem?_cons_zero, List.getElem?_cons_succ] at g11
  obtain ⟨z11, e11, _, b11⟩ := DataW.trod_int Tryd.underlying2 g11
  obtain rfl : c11 = _ := List.head_eq_of_cons_eq e11
  exact ⟨z0, z1, z2, z3, z4, z5, z6, z7, z8, z9, z10, z11, rfl, bounds_u8 b6, bounds_i64 b7, bounds_i64 b8, bounds_i64 b9, bounds_i64 b10, bounds_i64 b11⟩

theorem encL_length (n l p u r : ByteArray) (ty : Int) (ns : Nat → Int) (h : textsB n l p u r = true) : (encL n l p u r ty ns).length = 512 := by
  have s := texts_sizes h
  have z0 := encN_length ns 5 (by omega)
  unfold encL
  rw [List.length_set]
  have z1 : (splice (encN ns 5) 0 (s8 n)).length = 512 := by rw [length_splice _ _ _ (by rw [s8_length, z0]; omega), z0]
  generalize splice (encN ns 5) 0 (s8 n) = Z1 at *
  have z2 : (splice Z1 157 (s8 l)).length = 512 := by rw [length_splice _ _ _ (by rw [s8_length, z1]; omega), z1]
  generalize splice Z1 157 (s8 l) = Z2 at *
  have z3 : (splice Z2 257 (s8 ustarS)).length = 512 := by rw [length_splice _ _ _ (by rw [s8_length, z2]; show 257 + 8 ≤ 512; omega), z2]
  generalize splice Z2 257 (s8 ustarS) = Z3 at *
  have z4 : (splice Z3 265 (s8 u)).length = 512 := by rw [length_splice _ _ _ (by rw [s8_length, z3]; omega), z3]
  generalize splice Z3 265 (s8 u) = Z4 at *
  have z5 : (splice Z4 297 (s8 r)).length = 512 := by rw [length_splice _ _ _ (by rw [s8_length, z4]; omega), z4]
  generalize splice Z4 297 (s8 r) = Z5 at *
  rw [length_splice _ _ _ (by rw [s8_length, z5]; omega), z5]

theorem encL_allB (n l p u r : ByteArray) (ty : Int) (ns : Nat → Int) (hty : 0 ≤ ty ∧ ty ≤ 255) : AllB (encL n l p u r ty ns) := by
  intro z hz
  unfold encL at hz
  rcases List.mem_or_eq_of_mem_set hz with h | rfl
  · exact allB_splice _ _ _ (allB_splice _ _ _ (allB_splice _ _ _ (allB_splice _ _ _ (allB_splice _ _ _ (allB_splice _ _ _ (encN_allB ns 5) (s8_allB _)) (s8_allB _)) (s8_allB _)) (s8_allB _)) (s8_allB _)) (s8_allB _) z h
  · exact hty

theorem sums_apart (zs : List Int) : ∀ i, ∃ m : Int, addF idt i zs - addF sg i zs = 256 * m := by
  induction zs with
  | nil => intro i; exact ⟨0, by simp [addF]⟩
  | cons z r ih =>
    intro i
    obtain ⟨m, hm⟩ := ih (i + 1)
    unfold addF
    generalize addF idt (i + 1) r = A at *
    generalize addF sg (i + 1) r = B at *
    generalize cntAt i z = y
    by_cases c : 127 < y
    · have e : sg y = y - 256 := if_pos c
      exact ⟨m + 1, by rw [e]; show y + A - (y - 256 + B) = _; omega⟩
    · have e : sg y = y := if_neg c
      exact ⟨m, by rw [e]; show y + A - (y + B) = _; omega⟩

theorem xor_byte (x y : Int) (hx : 0 ≤ x ∧ x ≤ 255) (hy : 0 ≤ y ∧ y ≤ 255) : (0 ≤ bits .xor .u8 x y ∧ bits .xor .u8 x y ≤ 255) ∧ (y ≠ 0 → bits .xor .u8 x y ≠ x) := by
  have e : bits .xor .u8 x y = IntKind.u8.wrap (((BitVec.ofInt 8 x ^^^ BitVec.ofInt 8 y).toNat : Nat) : Int) := rfl
  have hlt := (BitVec.ofInt 8 x ^^^ BitVec.ofInt 8 y).isLt
  have e2 : bits .xor .u8 x y = ((BitVec.ofInt 8 x ^^^ BitVec.ofInt 8 y).toNat : Int) := by rw [e, IntKind.wrap_u8]; omega
  refine ⟨by omega, fun h0 h => h0 ?_⟩
  have ex : (BitVec.ofInt 8 x).toNat = x.toNat := by rw [BitVec.toNat_ofInt]; omega
  have ey : (BitVec.ofInt 8 y).toNat = y.toNat := by rw [BitVec.toNat_ofInt]; omega
  have h1 : BitVec.ofInt 8 x ^^^ BitVec.ofInt 8 y = BitVec.ofInt 8 x := BitVec.eq_of_toNat_eq (by rw [ex]; omega)
  have h2 : BitVec.ofInt 8 y = 0#8 := by
    have h3 : BitVec.ofInt 8 x ^^^ (BitVec.ofInt 8 x ^^^ BitVec.ofInt 8 y) = BitVec.ofInt 8 x ^^^ BitVec.ofInt 8 x := by rw [h1]
    rw [← BitVec.xor_assoc, BitVec.xor_self, BitVec.zero_xor] at h3
    exact h3
  rw [h2] at ey
  simp at ey
  omega

theorem byte_at (zs : List Int) (h : AllB zs) (k : Nat) : 0 ≤ zs[k]?.getD 0 ∧ zs[k]?.getD 0 ≤ 255 := by
  by_cases c : k < zs.length
  · simp only [List.getElem?_eq_getElem c, Option.getD_some]; exact h _ (List.getElem_mem c)
  · simp [c]

theorem allB_set (zs : List Int) (h : AllB zs) (k : Nat) (v : Int) (hv : 0 ≤ v ∧ v ≤ 255) : AllB (zs.set k v) := by
  intro z hz
  rcases List.mem_or_eq_of_mem_set hz with h1 | rfl
  · exact h z h1
  · exact hv


/-- A sealed block with one byte another one is never right. -/
theorem turned_no (zs : List Int) (h : zs.length = 512) (hb : AllB zs) (k : Nat) (v : Int) (hk : k < 512) (hf : ¬ (148 ≤ k ∧ k < 156)) (hv0 : 0 ≤ v ∧ v ≤ 255) (hv : v ≠ (sealL zs)[k]?.getD 0) : rightB ((sealL zs).set k v) = false := by
  obtain ⟨h1, h2⟩ := seal_turned zs h hb k v hk hf hv
  rw [h2]
  apply decide_eq_false
  intro h3
  obtain ⟨m, hm⟩ := sums_apart ((sealL zs).set k v) 0
  have hm' : plainS ((sealL zs).set k v) - signedS ((sealL zs).set k v) = 256 * m := hm
  have ho := byte_at (sealL zs) (sealL_allB zs hb) k
  rw [h1, h3] at hm'
  omega

end Go.Proofs.YtmholjjicklnhabDoor
