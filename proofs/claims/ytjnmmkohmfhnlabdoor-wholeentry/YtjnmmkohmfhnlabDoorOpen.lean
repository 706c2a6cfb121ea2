/-
  Headers and entries that came in, by value: opened.
-/
import Derived.Test.YtjnmmkohmfhnlabDoorLaid
import Derived.OpenShut
import Derived.Lib.SmallJoins
import Derived.SizedLaws
namespace Go.Proofs.YtjnmmkohmfhnlabDoor
open Go.ChangeShapes Go.WideShapes Go.RowKit
set_option linter.unusedVariables false
set_option linter.unusedSimpArgs false

theorem bytes_len (z : ByteArray) : z.data.toList.length = z.size := by rw [Array.length_toList]; rfl

theorem array12_hd {α : Type} {cs : Array α} (h : cs.size = 12) : ∃ c0 c1 c2 c3 c4 c5 c6 c7 c8 c9 c10 c11, cs = #[c0, c1, c2, c3, c4, c5, c6, c7, c8, c9, c10, c11] := by
  obtain ⟨l⟩ := cs
  match l, h with
  | [c0, c1, c2, c3, c4, c5, c6, c7, c8, c9, c10, c11], _ => exact ⟨c0, c1, c2, c3, c4, c5, c6, c7, c8, c9, c10, c11, rfl⟩
theorem list12_hd {α : Type} {cs : List α} (h : cs.length = 12) : ∃ c0 c1 c2 c3 c4 c5 c6 c7 c8 c9 c10 c11, cs = [c0, c1, c2, c3, c4, c5, c6, c7, c8, c9, c10, c11] := by
  match cs, h with
  | [c0, c1, c2, c3, c4, c5, c6, c7, c8, c9, c10, c11], _ => exact ⟨c0, c1, c2, c3, c4, c5, c6, c7, c8, c9, c10, c11, rfl⟩
structure HdFit (x : Hd) : Prop where
  form : -9223372036854775808 ≤ x.form ∧ x.form ≤ 9223372036854775807
  name : x.name.size ≤ 140737488351232
  link : x.link.size ≤ 140737488351232
  prefx : x.prefx.size ≤ 140737488351232
  user : x.user.size ≤ 140737488351232
  group : x.group.size ≤ 140737488351232
  typ : 0 ≤ x.typ ∧ x.typ ≤ 255
  mode : -9223372036854775808 ≤ x.mode ∧ x.mode ≤ 9223372036854775807
  uid : -9223372036854775808 ≤ x.uid ∧ x.uid ≤ 9223372036854775807
  gid : -9223372036854775808 ≤ x.gid ∧ x.gid ≤ 9223372036854775807
  size : -9223372036854775808 ≤ x.size ∧ x.size ≤ 9223372036854775807
  mtime : -9223372036854775808 ≤ x.mtime ∧ x.mtime ≤ 9223372036854775807

set_option maxRecDepth 100000 in
set_option maxHeartbeats 2000000 in
theorem open_hd {H : Type} {enc : TypeId × Value → H} {W : World} {base : Nat} {v : Value} {d : DataW H} {p : List MemPlace} (hv : Value.okWide Tryd.prog W .any base 25 v) (h : DataW.Trod enc Tryd.prog W 0 (fun _ => true) true 25 v d p) (hs : ∀ n ∈ d.weights Tryd.prog 25, n ≤ reachBytes) : ∃ x : Hd, v = .agg x.cells ∧ HdFit x := by
  obtain ⟨cs, rfl, hsz⟩ := okWide_struct Tryd.underlying25 hv
  have hc : Tryd.prog.cellsOf 25 = 12 := by kernel_rfl
  obtain ⟨c0, c1, c2, c3, c4, c5, c6, c7, c8, c9, c10, c11, rfl⟩ := array12_hd (hsz.trans hc)
  obtain ⟨fuel, hf⟩ := h
  obtain ⟨xs, n, _, hx, _, hlen, hfs⟩ := DataW.trod_struct Tryd.underlying25 hf
  obtain ⟨y0, y1, y2, y3, y4, y5, y6, y7, y8, y9, y10, y11, rfl⟩ := list12_hd (show xs.length = 12 from hlen)
  have k3 : Tryd.prog.cellsOf 3 = 1 := by kernel_rfl
  have k9 : Tryd.prog.cellsOf 9 = 1 := by kernel_rfl
  have k5 : Tryd.prog.cellsOf 5 = 1 := by kernel_rfl
  have k2 : Tryd.prog.cellsOf 2 = 1 := by kernel_rfl
  simp only [Prod.mk.injEq] at hx
  obtain ⟨rfl, -⟩ := hx
  have g0 := hfs 0 _ rfl
  simp only [Value.cells, k3, List.drop_succ_cons, List.drop_zero, List.take_succ_cons, List.take_zero, List.getElem?_cons_zero, List.getElem?_cons_succ] at g0
  obtain ⟨z0, e0, r0, b0⟩ := DataW.trod_int Tryd.underlying3 g0
  obtain rfl : c0 = _ := List.head_eq_of_cons_eq e0
  subst r0
  have g1 := hfs 1 _ rfl
  simp only [Value.cells, k9, List.drop_succ_cons, List.drop_zero, List.take_succ_cons, List.take_zero, List.getElem?_cons_zero, List.getElem?_cons_succ] at g1
  obtain ⟨z1, e1, r1, _⟩ := DataW.trod_string Tryd.underlying9 g1
  obtain rfl : c1 = _ := List.head_eq_of_cons_eq e1
  subst r1
  have g2 := hfs 2 _ rfl
  simp only [Value.cells, k9, List.drop_succ_cons, List.drop_zero, List.take_succ_cons, List.take_zero, List.getElem?_cons_zero, List.getElem?_cons_succ] at g2
  obtain ⟨z2, e2, r2, _⟩ := DataW.trod_string Tryd.underlying9 g2
  obtain rfl : c2 = _ := List.head_eq_of_cons_eq e2
  subst r2
  have g3 := hfs 3 _ rfl
  simp only [Value.cells, k9, List.drop_succ_cons, List.drop_zero, List.take_succ_cons, List.take_zero, List.getElem?_cons_zero, List.getElem?_cons_succ] at g3
  obtain ⟨z3, e3, r3, _⟩ := DataW.trod_string Tryd.underlying9 g3
  obtain rfl : c3 = _ := List.head_eq_of_cons_eq e3
  subst r3
  have g4 := hfs 4 _ rfl
  simp only [Value.cells, k9, List.drop_succ_cons, List.drop_zero, List.take_succ_cons, List.take_zero, List.getElem?_cons_zero, List.getElem?_cons_succ] at g4
  obtain ⟨z4, e4, r4, _⟩ := DataW.trod_string Tryd.underlying9 g4
  obtain rfl : c4 = _ := List.head_eq_of_cons_eq e4
  subst r4
  have g5 := hfs 5 _ rfl
  simp only [Value.cells, k9, List.drop_succ_cons, List.drop_zero, List.take_succ_cons, List.take_zero, List.getElem?_cons_zero, List.getElem?_cons_succ] at g5
  obtain ⟨z5, e5, r5, _⟩ := DataW.trod_string Tryd.underlying9 g5
  obtain rfl : c5 = _ := List.head_eq_of_cons_eq e5
  subst r5
  have g6 := hfs 6 _ rfl
  simp only [Value.cells, k5, List.drop_succ_cons, List.drop_zero, List.take_succ_cons, List.take_zero, List.getElem?_cons_zero, List.getElem?_cons_succ] at g6
  obtain ⟨z6, e6, r6, b6⟩ := DataW.trod_int Tryd.underlying5 g6
  obtain rfl : c6 = _ := List.head_eq_of_cons_eq e6
  subst r6
  have g7 := hfs 7 _ rfl
  simp only [Value.cells, k2, List.drop_succ_cons, List.drop_zero, List.take_succ_cons, List.take_zero, List.getElem?_cons_zero, List.getElem?_cons_succ] at g7
  obtain ⟨z7, e7, r7, b7⟩ := DataW.trod_int Tryd.underlying2 g7
  obtain rfl : c7 = _ := List.head_eq_of_cons_eq e7
  subst r7
  have g8 := hfs 8 _ rfl
  simp only [Value.cells, k2, List.drop_succ_cons, List.drop_zero, List.take_succ_cons, List.take_zero, List.getElem?_cons_zero, List.getElem?_cons_succ] at g8
  obtain ⟨z8, e8, r8, b8⟩ := DataW.trod_int Tryd.underlying2 g8
  obtain rfl : c8 = _ := List.head_eq_of_cons_eq e8
  subst r8
  have g9 := hfs 9 _ rfl
  simp only [Value.cells, k2, List.drop_succ_cons, List.drop_zero, List.take_succ_cons, List.take_zero, List.getElem?_cons_zero, List.getElem?_cons_succ] at g9
  obtain ⟨z9, e9, r9, b9⟩ := DataW.trod_int Tryd.underlying2 g9
  obtain rfl : c9 = _ := List.head_eq_of_cons_eq e9
  subst r9
  have g10 := hfs 10 _ rfl
  simp only [Value.cells, k2, List.drop_succ_cons, List.drop_zero, List.take_succ_cons, List.take_zero, List.getElem?_cons_zero, List.getElem?_cons_succ] at g10
  obtain ⟨z10, e10, r10, b10⟩ := DataW.trod_int Tryd.underlying2 g10
  obtain rfl : c10 = _ := List.head_eq_of_cons_eq e10
  subst r10
  have g11 := hfs 11 _ rfl
  simp only [Value.cells, k2, List.drop_succ_cons, List.drop_zero, List.take_succ_cons, List.take_zero, List.getElem?_cons_zero, List.getElem?_cons_succ] at g11
  obtain ⟨z11, e11, r11, b11⟩ := DataW.trod_int Tryd.underlying2 g11
  obtain rfl : c11 = _ := List.head_eq_of_cons_eq e11
  subst r11
  have hw : ∀ l : List (DataW H), DataW.weights Tryd.prog 25 (.agg l) = DataW.weightsEach Tryd.prog [3, 9, 9, 9, 9, 9, 5, 2, 2, 2, 2, 2] l := fun l => by
    rw [DataW.weights, Tryd.underlying25]
    rfl
  simp only [List.map] at hs
  rw [hw] at hs
  refine ⟨⟨z0, z1, z2, z3, z4, z5, z6, z7, z8, z9, z10, z11⟩, rfl, ⟨?_, ?_, ?_, ?_, ?_, ?_, ?_, ?_, ?_, ?_, ?_, ?_⟩⟩
  · exact bounds_i64 b0
  · have := hs z1.data.toList.length (DataW.weights_mem_each (j := 1) (t := 9) rfl rfl _ (by rw [DataW.weights]; exact List.mem_singleton.2 rfl))
    have e : z1.data.toList.length = z1.size := bytes_len _
    have r : reachBytes = 140737488351232 := by decide
    show z1.size ≤ _
    omega
  · have := hs z2.data.toList.length (DataW.weights_mem_each (j := 2) (t := 9) rfl rfl _ (by rw [DataW.weights]; exact List.mem_singleton.2 rfl))
    have e : z2.data.toList.length = z2.size := bytes_len _
    have r : reachBytes = 140737488351232 := by decide
    show z2.size ≤ _
    omega
  · have := hs z3.data.toList.length (DataW.weights_mem_each (j := 3) (t := 9) rfl rfl _ (by rw [DataW.weights]; exact List.mem_singleton.2 rfl))
    have e : z3.data.toList.length = z3.size := bytes_len _
    have r : reachBytes = 140737488351232 := by decide
    show z3.size ≤ _
    omega
  · have := hs z4.data.toList.length (DataW.weights_mem_each (j := 4) (t := 9) rfl rfl _ (by rw [DataW.weights]; exact List.mem_singleton.2 rfl))
    have e : z4.data.toList.length = z4.size := bytes_len _
    have r : reachBytes = 140737488351232 := by decide
    show z4.size ≤ _
    omega
  · have := hs z5.data.toList.length (DataW.weights_mem_each (j := 5) (t := 9) rfl rfl _ (by rw [DataW.weights]; exact List.mem_singleton.2 rfl))
    have e : z5.data.toList.length = z5.size := bytes_len _
    have r : reachBytes = 140737488351232 := by decide
    show z5.size ≤ _
    omega
  · exact bounds_u8 b6
  · exact bounds_i64 b7
  · exact bounds_i64 b8
  · exact bounds_i64 b9
  · exact bounds_i64 b10
  · exact bounds_i64 b11

theorem array10_en {α : Type} {cs : Array α} (h : cs.size = 10) : ∃ c0 c1 c2 c3 c4 c5 c6 c7 c8 c9, cs = #[c0, c1, c2, c3, c4, c5, c6, c7, c8, c9] := by
  obtain ⟨l⟩ := cs
  match l, h with
  | [c0, c1, c2, c3, c4, c5, c6, c7, c8, c9], _ => exact ⟨c0, c1, c2, c3, c4, c5, c6, c7, c8, c9, rfl⟩
theorem list10_en {α : Type} {cs : List α} (h : cs.length = 10) : ∃ c0 c1 c2 c3 c4 c5 c6 c7 c8 c9, cs = [c0, c1, c2, c3, c4, c5, c6, c7, c8, c9] := by
  match cs, h with
  | [c0, c1, c2, c3, c4, c5, c6, c7, c8, c9], _ => exact ⟨c0, c1, c2, c3, c4, c5, c6, c7, c8, c9, rfl⟩
structure EnFit (x : En) : Prop where
  path : x.path.size ≤ 140737488351232
  link : x.link.size ≤ 140737488351232
  kind : -9223372036854775808 ≤ x.kind ∧ x.kind ≤ 9223372036854775807
  mode : -9223372036854775808 ≤ x.mode ∧ x.mode ≤ 9223372036854775807
  uid : -9223372036854775808 ≤ x.uid ∧ x.uid ≤ 9223372036854775807
  gid : -9223372036854775808 ≤ x.gid ∧ x.gid ≤ 9223372036854775807
  mtime : -9223372036854775808 ≤ x.mtime ∧ x.mtime ≤ 9223372036854775807
  size : -9223372036854775808 ≤ x.size ∧ x.size ≤ 9223372036854775807
  user : x.user.size ≤ 140737488351232
  group : x.group.size ≤ 140737488351232

set_option maxRecDepth 100000 in
set_option maxHeartbeats 2000000 in
theorem open_en {H : Type} {enc : TypeId × Value → H} {W : World} {base : Nat} {v : Value} {d : DataW H} {p : List MemPlace} (hv : Value.okWide Tryd.prog W .any base 23 v) (h : DataW.Trod enc Tryd.prog W 0 (fun _ => true) true 23 v d p) (hs : ∀ n ∈ d.weights Tryd.prog 23, n ≤ reachBytes) : ∃ x : En, v = .agg x.cells ∧ EnFit x := by
  obtain ⟨cs, rfl, hsz⟩ := okWide_struct Tryd.underlying23 hv
  have hc : Tryd.prog.cellsOf 23 = 10 := by kernel_rfl
  obtain ⟨c0, c1, c2, c3, c4, c5, c6, c7, c8, c9, rfl⟩ := array10_en (hsz.trans hc)
  obtain ⟨fuel, hf⟩ := h
  obtain ⟨xs, n, _, hx, _, hlen, hfs⟩ := DataW.trod_struct Tryd.underlying23 hf
  obtain ⟨y0, y1, y2, y3, y4, y5, y6, y7, y8, y9, rfl⟩ := list10_en (show xs.length = 10 from hlen)
  have k3 : Tryd.prog.cellsOf 3 = 1 := by kernel_rfl
  have k9 : Tryd.prog.cellsOf 9 = 1 := by kernel_rfl
  have k5 : Tryd.prog.cellsOf 5 = 1 := by kernel_rfl
  have k2 : Tryd.prog.cellsOf 2 = 1 := by kernel_rfl
  simp only [Prod.mk.injEq] at hx
  obtain ⟨rfl, -⟩ := hx
  have g0 := hfs 0 _ rfl
  simp only [Value.cells, k9, List.drop_succ_cons, List.drop_zero, List.take_succ_cons, List.take_zero, List.getElem?_cons_zero, List.getElem?_cons_succ] at g0
  obtain ⟨z0, e0, r0, _⟩ := DataW.trod_string Tryd.underlying9 g0
  obtain rfl : c0 = _ := List.head_eq_of_cons_eq e0
  subst r0
  have g1 := hfs 1 _ rfl
  simp only [Value.cells, k9, List.drop_succ_cons, List.drop_zero, List.take_succ_cons, List.take_zero, List.getElem?_cons_zero, List.getElem?_cons_succ] at g1
  obtain ⟨z1, e1, r1, _⟩ := DataW.trod_string Tryd.underlying9 g1
  obtain rfl : c1 = _ := List.head_eq_of_cons_eq e1
  subst r1
  have g2 := hfs 2 _ rfl
  simp only [Value.cells, k3, List.drop_succ_cons, List.drop_zero, List.take_succ_cons, List.take_zero, List.getElem?_cons_zero, List.getElem?_cons_succ] at g2
  obtain ⟨z2, e2, r2, b2⟩ := DataW.trod_int Tryd.underlying3 g2
  obtain rfl : c2 = _ := List.head_eq_of_cons_eq e2
  subst r2
  have g3 := hfs 3 _ rfl
  simp only [Value.cells, k3, List.drop_succ_cons, List.drop_zero, List.take_succ_cons, List.take_zero, List.getElem?_cons_zero, List.getElem?_cons_succ] at g3
  obtain ⟨z3, e3, r3, b3⟩ := DataW.trod_int Tryd.underlying3 g3
  obtain rfl : c3 = _ := List.head_eq_of_cons_eq e3
  subst r3
  have g4 := hfs 4 _ rfl
  simp only [Value.cells, k2, List.drop_succ_cons, List.drop_zero, List.take_succ_cons, List.take_zero, List.getElem?_cons_zero, List.getElem?_cons_succ] at g4
  obtain ⟨z4, e4, r4, b4⟩ := DataW.trod_int Tryd.underlying2 g4
  obtain rfl : c4 = _ := List.head_eq_of_cons_eq e4
  subst r4
  have g5 := hfs 5 _ rfl
  simp only [Value.cells, k2, List.drop_succ_cons, List.drop_zero, List.take_succ_cons, List.take_zero, List.getElem?_cons_zero, List.getElem?_cons_succ] at g5
  obtain ⟨z5, e5, r5, b5⟩ := DataW.trod_int Tryd.underlying2 g5
  obtain rfl : c5 = _ := List.head_eq_of_cons_eq e5
  subst r5
  have g6 := hfs 6 _ rfl
  simp only [Value.cells, k2, List.drop_succ_cons, List.drop_zero, List.take_succ_cons, List.take_zero, List.getElem?_cons_zero, List.getElem?_cons_succ] at g6
  obtain ⟨z6, e6, r6, b6⟩ := DataW.trod_int Tryd.underlying2 g6
  obtain rfl : c6 = _ := List.head_eq_of_cons_eq e6
  subst r6
  have g7 := hfs 7 _ rfl
  simp only [Value.cells, k2, List.drop_succ_cons, List.drop_zero, List.take_succ_cons, List.take_zero, List.getElem?_cons_zero, List.getElem?_cons_succ] at g7
  obtain ⟨z7, e7, r7, b7⟩ := DataW.trod_int Tryd.underlying2 g7
  obtain rfl : c7 = _ := List.head_eq_of_cons_eq e7
  subst r7
  have g8 := hfs 8 _ rfl
  simp only [Value.cells, k9, List.drop_succ_cons, List.drop_zero, List.take_succ_cons, List.take_zero, List.getElem?_cons_zero, List.getElem?_cons_succ] at g8
  obtain ⟨z8, e8, r8, _⟩ := DataW.trod_string Tryd.underlying9 g8
  obtain rfl : c8 = _ := List.head_eq_of_cons_eq e8
  subst r8
  have g9 := hfs 9 _ rfl
  simp only [Value.cells, k9, List.drop_succ_cons, List.drop_zero, List.take_succ_cons, List.take_zero, List.getElem?_cons_zero, List.getElem?_cons_succ] at g9
  obtain ⟨z9, e9, r9, _⟩ := DataW.trod_string Tryd.underlying9 g9
  obtain rfl : c9 = _ := List.head_eq_of_cons_eq e9
  subst r9
  have hw : ∀ l : List (DataW H), DataW.weights Tryd.prog 23 (.agg l) = DataW.weightsEach Tryd.prog [9, 9, 3, 3, 2, 2, 2, 2, 9, 9] l := fun l => by
    rw [DataW.weights, Tryd.underlying23]
    rfl
  simp only [List.map] at hs
  rw [hw] at hs
  refine ⟨⟨z0, z1, z2, z3, z4, z5, z6, z7, z8, z9⟩, rfl, ⟨?_, ?_, ?_, ?_, ?_, ?_, ?_, ?_, ?_, ?_⟩⟩
  · have := hs z0.data.toList.length (DataW.weights_mem_each (j := 0) (t := 9) rfl rfl _ (by rw [DataW.weights]; exact List.mem_singleton.2 rfl))
    have e : z0.data.toList.length = z0.size := bytes_len _
    have r : reachBytes = 140737488351232 := by decide
    show z0.size ≤ _
    omega
  · have := hs z1.data.toList.length (DataW.weights_mem_each (j := 1) (t := 9) rfl rfl _ (by rw [DataW.weights]; exact List.mem_singleton.2 rfl))
    have e : z1.data.toList.length = z1.size := bytes_len _
    have r : reachBytes = 140737488351232 := by decide
    show z1.size ≤ _
    omega
  · exact bounds_i64 b2
  · exact bounds_i64 b3
  · exact bounds_i64 b4
  · exact bounds_i64 b5
  · exact bounds_i64 b6
  · exact bounds_i64 b7
  · have := hs z8.data.toList.length (DataW.weights_mem_each (j := 8) (t := 9) rfl rfl _ (by rw [DataW.weights]; exact List.mem_singleton.2 rfl))
    have e : z8.data.toList.length = z8.size := bytes_len _
    have r : reachBytes = 140737488351232 := by decide
    show z8.size ≤ _
    omega
  · have := hs z9.data.toList.length (DataW.weights_mem_each (j := 9) (t := 9) rfl rfl _ (by rw [DataW.weights]; exact List.mem_singleton.2 rfl))
    have e : z9.data.toList.length = z9.size := bytes_len _
    have r : reachBytes = 140737488351232 := by decide
    show z9.size ≤ _
    omega

end Go.Proofs.YtjnmmkohmfhnlabDoor
