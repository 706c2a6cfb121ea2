/-
  Contracts: Add in the place of what is no directory, over what withParents and Put answer.
-/
import Derived.Test.YtojnniacmmcddaaDoorW1
import Derived.Test.YtojnniacmmcddaaDoorW3
namespace Go.Proofs.YtojnniacmmcddaaDoor
open Go.RowKit
open Go.Lib hiding intOf
set_option linter.unusedVariables false
set_option linter.unusedSimpArgs false

set_option maxRecDepth 20000 in
set_option maxHeartbeats 4000000 in
theorem add_over (ad : Option Addr) (cap n m : Nat) (nx ny : Int) (s : List UInt8) (kd md sz : Int) (mk : Bool) (w : World) (L M : List Rw) (r : Rw) (hrk : r.kind ≠ 4) (hkd : kd ≠ 4) (hs : s ≠ []) (h0 : 0 ≤ ny) (h1 : ny ≤ 1000000000000)
    (KA : Hid (∀ W, Below w.heap.size w W → Calls Tryd.prog 28 #[.agg #[.slice ad n cap, .int .i64 nx], .string (bs s)] W fun e w' => e = .returned (.tuple #[.agg #[.string (bs r.p), .int .i64 r.id, .int .i64 r.kind, .int .i64 r.mode, .int .i64 0, .int .i64 0, .int .i64 0, .string ⟨#[]⟩, .string ⟨#[]⟩, .string ⟨#[]⟩, .slice none 0 0, .int .i64 r.size, .bool r.made], .bool true]) ∧ Below W.heap.size W w'))
    (KP : Hid (∀ W, Below w.heap.size w W → Calls Tryd.prog 30 #[.agg #[.slice ad n cap, .int .i64 nx], .string (bs s)] W fun e w' => ∃ ad2 c2, e = .returned (.tuple #[.agg #[.slice ad2 m c2, .int .i64 ny], .int .i64 0]) ∧ Rs w' ad2 L ∧ m ≤ c2 ∧ (ad2 = none → c2 = 0) ∧ Below W.heap.size W w'))
    (KT : Hid (∀ W ad2 c2, Rs W ad2 L → m ≤ c2 → (ad2 = none → c2 = 0) → Calls Tryd.prog 31 #[.agg #[.slice ad2 m c2, .int .i64 (ny + 1)], .agg #[.string (bs s), .int .i64 ny, .int .i64 kd, .int .i64 md, .int .i64 0, .int .i64 0, .int .i64 0, .string ⟨#[]⟩, .string ⟨#[]⟩, .string ⟨#[]⟩, .slice none 0 0, .int .i64 sz, .bool mk]] W fun e w' => ∃ gd c, e = .returned (.agg #[.slice (some ⟨gd, 0, none⟩) M.length c, .int .i64 (ny + 1)]) ∧ Rs w' (some ⟨gd, 0, none⟩) M ∧ W.heap.size ≤ gd ∧ M.length ≤ c ∧ Below W.heap.size W w')) :
    Calls Tryd.prog 10 #[.agg #[.slice ad n cap, .int .i64 nx], .string (bs s), .agg #[.int .i64 kd, .int .i64 md, .int .i64 0, .int .i64 0, .int .i64 0, .string ⟨#[]⟩, .string ⟨#[]⟩, .string ⟨#[]⟩, .slice none 0 0, .int .i64 sz, .bool mk]] w fun e w' => ∃ gd c, e = .returned (.tuple #[.agg #[.slice (some ⟨gd, 0, none⟩) M.length c, .int .i64 (ny + 1)], .int .i64 0]) ∧ Rs w' (some ⟨gd, 0, none⟩) M ∧ w.heap.size ≤ gd ∧ M.length ≤ c ∧ Below w.heap.size w w' := by
  have KD : Hid (∀ W, Calls Tryd.prog 29 #[.agg #[.string (bs r.p), .int .i64 r.id, .int .i64 r.kind, .int .i64 r.mode, .int .i64 0, .int .i64 0, .int .i64 0, .string ⟨#[]⟩, .string ⟨#[]⟩, .string ⟨#[]⟩, .slice none 0 0, .int .i64 r.size, .bool r.made]] W fun e w' => e = .returned (.bool false) ∧ Below W.heap.size W w') := fun W => by
    have := isDir_w r W
    rwa [decide_eq_false hrk] at this
  have hk1 : (kd == 4) = false := by simpa using hkd
  have hk2 : decide (kd = 4) = false := decide_eq_false hkd
  have H0 := A3.mk0 w #[.slice ad n cap, .int .i64 nx] #[.int .i64 kd, .int .i64 md, .int .i64 0, .int .i64 0, .int .i64 0, .string ⟨#[]⟩, .string ⟨#[]⟩, .string ⟨#[]⟩, .slice none 0 0, .int .i64 sz, .bool mk] #[.slice none 0 0, .int .i64 0]
  have ht := bs_toList s
  have hE : s.isEmpty = false := by simpa using hs
  go_enter Tryd.func10, Tryd.ntmps10
  go_upto_region 4 with (first
    | (go_at_call 28; refine (KA.out _ H0.bel).mono ?_; rintro e w2 ⟨rfl, b2⟩; have H2 : Hid (A3 w w2 _ _ _) := H0.next b2; clear b2)
    | (refine wpList_store_row rfl 40 _ _ rfl w2.heap.size #[.string (bs r.p), .int .i64 r.id, .int .i64 r.kind, .int .i64 r.mode, .int .i64 0, .int .i64 0, .int .i64 0, .string ⟨#[]⟩, .string ⟨#[]⟩, .string ⟨#[]⟩, .slice none 0 0, .int .i64 r.size, .bool r.made] rfl rfl 40 _ (heap_alloc_new w2 _) (by kernel_rfl) rfl (by simp [Value.oneCell']) ?_))
  have b3 : Below w2.heap.size w2 ((w2.alloc (.cells #[.string ⟨#[]⟩, .int .i64 0, .int .i64 0, .int .i64 0, .int .i64 0, .int .i64 0, .int .i64 0, .string ⟨#[]⟩, .string ⟨#[]⟩, .string ⟨#[]⟩, .slice none 0 0, .int .i64 0, .bool false] 40)).setRow w2.heap.size #[.string (bs r.p), .int .i64 r.id, .int .i64 r.kind, .int .i64 r.mode, .int .i64 0, .int .i64 0, .int .i64 0, .string ⟨#[]⟩, .string ⟨#[]⟩, .string ⟨#[]⟩, .slice none 0 0, .int .i64 r.size, .bool r.made]) := below_setRow (below_box w2 _) (Nat.le_refl _) _
  have r3 := setRow_heap (w2.alloc (.cells #[.string ⟨#[]⟩, .int .i64 0, .int .i64 0, .int .i64 0, .int .i64 0, .int .i64 0, .int .i64 0, .string ⟨#[]⟩, .string ⟨#[]⟩, .string ⟨#[]⟩, .slice none 0 0, .int .i64 0, .bool false] 40)) w2.heap.size _ #[.string (bs r.p), .int .i64 r.id, .int .i64 r.kind, .int .i64 r.mode, .int .i64 0, .int .i64 0, .int .i64 0, .string ⟨#[]⟩, .string ⟨#[]⟩, .string ⟨#[]⟩, .slice none 0 0, .int .i64 r.size, .bool r.made] _ _ (heap_alloc_new w2 _)
  have l3 : w2.heap.size + 1 ≤ ((w2.alloc (.cells #[.string ⟨#[]⟩, .int .i64 0, .int .i64 0, .int .i64 0, .int .i64 0, .int .i64 0, .int .i64 0, .string ⟨#[]⟩, .string ⟨#[]⟩, .string ⟨#[]⟩, .slice none 0 0, .int .i64 0, .bool false] 40)).setRow w2.heap.size #[.string (bs r.p), .int .i64 r.id, .int .i64 r.kind, .int .i64 r.mode, .int .i64 0, .int .i64 0, .int .i64 0, .string ⟨#[]⟩, .string ⟨#[]⟩, .string ⟨#[]⟩, .slice none 0 0, .int .i64 r.size, .bool r.made]).heap.size := by rw [setRow_size, size_box]; exact Nat.le_refl _
  generalize (w2.alloc _).setRow _ _ = w3 at *
  have H3 := (H2.out.next b3).drew
  have r3' : w3.drew.heap[w2.heap.size]? = _ := r3
  have l3' : w2.heap.size + 1 ≤ w3.drew.heap.size := l3
  clear b3 r3 l3
  have h3 : (∀ k, w3.drew.cell? ⟨w2.heap.size, k, none⟩ = (#[.string (bs r.p), .int .i64 r.id, .int .i64 r.kind, .int .i64 r.mode, .int .i64 0, .int .i64 0, .int .i64 0, .string ⟨#[]⟩, .string ⟨#[]⟩, .string ⟨#[]⟩, .slice none 0 0, .int .i64 r.size, .bool r.made] : Array Value)[k]?) ∧ w3.drew.cell? ⟨w.heap.size + 1, 0, none⟩ = some (.int .i64 kd) := ⟨cells_of r3', cells_of H3.nod 0⟩
  go_region_held3 (fun W => (∀ k, W.cell? ⟨w2.heap.size, k, none⟩ = (#[.string (bs r.p), .int .i64 r.id, .int .i64 r.kind, .int .i64 r.mode, .int .i64 0, .int .i64 0, .int .i64 0, .string ⟨#[]⟩, .string ⟨#[]⟩, .string ⟨#[]⟩, .slice none 0 0, .int .i64 r.size, .bool r.made] : Array Value)[k]?) ∧ W.cell? ⟨w.heap.size + 1, 0, none⟩ = some (.int .i64 kd)) (first | assumption | exact h3) (
    (go_at_call 29; refine (KD.out _).mono ?_; rintro e wD ⟨rfl, bD⟩; have HD : A3 w wD _ _ _ := H3.next bD; have rD : wD.heap[w2.heap.size]? = _ := (bD.block _ (by omega)).trans r3'; have lD : w2.heap.size + 1 ≤ wD.heap.size := Nat.le_trans l3' bD.size; have hD : (∀ k, wD.cell? ⟨w2.heap.size, k, none⟩ = (#[.string (bs r.p), .int .i64 r.id, .int .i64 r.kind, .int .i64 r.mode, .int .i64 0, .int .i64 0, .int .i64 0, .string ⟨#[]⟩, .string ⟨#[]⟩, .string ⟨#[]⟩, .slice none 0 0, .int .i64 r.size, .bool r.made] : Array Value)[k]?) ∧ wD.cell? ⟨w.heap.size + 1, 0, none⟩ = some (.int .i64 kd) := ⟨cells_of rD, cells_of HD.nod 0⟩))
  have c3 := cells_of HD.tre
  clear h3 hD
  go_upto_region 9 with (first
    | (go_at_call 30; refine (KP.out _ HD.bel).mono ?_; rintro e w4 ⟨ad2, c2, rfl, R4, C4, N4, b4⟩; have H4 : Hid (A3 w w4 _ _ _) := HD.next b4; have r4 : Hid (w4.heap[w2.heap.size]? = _) := (b4.block _ (by omega)).trans rD; have l4 : w2.heap.size + 1 ≤ w4.heap.size := Nat.le_trans lD b4.size; clear b4))
  have b5 : Below w4.heap.size w4 (w4.alloc (.cells #[.slice ad2 m c2, .int .i64 ny] 26)) := below_box w4 _
  have q5 := heap_alloc_new w4 (.cells #[.slice ad2 m c2, .int .i64 ny] 26)
  have l5 := size_box w4 (.cells #[.slice ad2 m c2, .int .i64 ny] 26)
  generalize w4.alloc _ = w5 at *
  have H5 : Hid (A3 w w5 _ _ _) := A3.next H4.out b5
  have r5 : w5.heap[w2.heap.size]? = _ := (b5.block _ (by omega)).trans r4.out
  have c5 := cells_of r5
  have hw1 : IntKind.i64.wrap (ny + 1) = ny + 1 := by rw [IntKind.wrap_i64]; omega
  have X4 : Hid (w.heap.size + 3 ≤ w4.heap.size) := H4.out.lt
  have Q5 : Hid (w5.heap[w4.heap.size]? = _) := q5
  have b56 : Hid (Below w4.heap.size w4 w5) := b5
  clear c3 b5 H4 r4 q5
  go_upto_region 11 with (go_at_call 29; refine (KD.out _).mono ?_; rintro e wE ⟨rfl, bE⟩; have BE : Hid (Below w4.heap.size w4 wE) := b56.out.trans (bE.mono (by omega)); have HE : Hid (A3 w wE _ _ _) := A3.next H5.out bE; have qE : wE.heap[w4.heap.size]? = _ := (bE.block _ (by omega)).trans Q5.out; clear bE)
  have c6 := cells_of qE
  have f6 := froz_of qE
  clear c5 r5
  go_upto_region 13 with (fail)
  have b6 : Below w4.heap.size wE (wE.setCell ⟨w4.heap.size, 1, none⟩ (.int .i64 (ny + 1))) := (Below.refl w4.heap.size wE).setCell (by show w4.heap.size ≤ w4.heap.size; exact Nat.le_refl _) _
  have q6 : (wE.setCell ⟨w4.heap.size, 1, none⟩ (.int .i64 (ny + 1))).heap[w4.heap.size]? = some (.cells #[.slice ad2 m c2, .int .i64 (ny + 1)] 26 (0, 0)) := by
    rw [setCell_eq_setRow wE w4.heap.size 1 _ 26 (0, 0) _ qE]
    exact setRow_heap _ _ _ _ _ _ qE
  have H6 : Hid (A3 w (wE.setCell ⟨w4.heap.size, 1, none⟩ (.int .i64 (ny + 1))) _ _ _) := ⟨by rw [b6.block _ (by have := X4.out; omega)]; exact HE.out.tre, by rw [b6.block _ (by have := X4.out; omega)]; exact HE.out.nod, by rw [b6.block _ (by have := X4.out; omega)]; exact HE.out.res, HE.out.bel.trans (b6.mono (by have := X4.out; omega)), Nat.le_trans HE.out.lt b6.size⟩
  have R6 : Hid (Rs (wE.setCell ⟨w4.heap.size, 1, none⟩ (.int .i64 (ny + 1))) ad2 L) := (R4.below (BE.out.trans b6))
  generalize wE.setCell _ _ = w6 at *
  clear c6 f6 qE
  have c7 := cells_of q6
  have c8 := cells_of H6.out.nod
  go_wp2_with (go_at_call 31; refine (KT.out _ ad2 c2 R6.out C4 N4).mono ?_; rintro e w7 ⟨gd, c, rfl, R7, G7, C7, b7⟩; have H7 : Hid (A3 w w7 _ _ _) := A3.next H6.out b7; have d3 := cells_of H7.out.res; have g3 := froz_of H7.out.res)
  have lt6 := H6.out.lt
  have e2 := two_set H7.out.res (.slice (some ⟨gd, 0, none⟩) M.length c) (.int .i64 (ny + 1))
  have R8 := R7.far (gd := gd) rfl (w.heap.size + 2) (by omega) (.slice (some ⟨gd, 0, none⟩) M.length c) (.int .i64 (ny + 1))
  have b8 : Below w.heap.size w ((w7.setCell ⟨w.heap.size + 2, 0, none⟩ (.slice (some ⟨gd, 0, none⟩) M.length c)).setCell ⟨w.heap.size + 2, 1, none⟩ (.int .i64 (ny + 1))) := (H7.out.bel.setCell (by show _ ≤ w.heap.size + 2; omega) _).setCell (by show _ ≤ w.heap.size + 2; omega) _
  have hld := run_loadVar_row _ _ _ 26 _ _ _ e2 Tryd.underlying26 rfl (by kernel_rfl)
  exact bodyPost_ret (by rw [results_cell_tmp rfl]; simp [asAddr, hld]) rfl ⟨gd, c, rfl, R8, by omega, C7, b8⟩

end Go.Proofs.YtojnniacmmcddaaDoor
