/-
  Contracts: Add where nothing stands, over what withParents and Put answer.
-/
import Derived.Test.YtojnniacmmcddaaDoorT8
namespace Go.Proofs.YtojnniacmmcddaaDoor
open Go.RowKit
open Go.Lib hiding intOf
set_option linter.unusedVariables false
set_option linter.unusedSimpArgs false

structure A3 (w W : World) (T C D : Array Value) : Prop where
  tre : W.heap[w.heap.size]? = some (.cells T 26 (0, 0))
  nod : W.heap[w.heap.size + 1]? = some (.cells C 33 (0, 0))
  res : W.heap[w.heap.size + 2]? = some (.cells D 26 (0, 0))
  bel : Below w.heap.size w W
  lt : w.heap.size + 3 ≤ W.heap.size

theorem A3.next {w W W' : World} {T C D : Array Value} (h : A3 w W T C D) (b : Below W.heap.size W W') : A3 w W' T C D := by
  have := h.lt
  exact ⟨by rw [b.block _ (by omega)]; exact h.tre, by rw [b.block _ (by omega)]; exact h.nod, by rw [b.block _ (by omega)]; exact h.res, h.bel.trans (b.mono h.bel.size), Nat.le_trans h.lt b.size⟩
theorem A3.drew {w W : World} {T C D : Array Value} (h : A3 w W T C D) : A3 w W.drew T C D := ⟨h.tre, h.nod, h.res, h.bel.drew, h.lt⟩
theorem A3.mk0 (w : World) (T C D : Array Value) : A3 w (((w.alloc (.cells T 26)).alloc (.cells C 33)).alloc (.cells D 26)) T C D := by
  have s1 := size_box w (.cells T 26)
  have s2 := size_box (w.alloc (.cells T 26)) (.cells C 33)
  have s3 := size_box ((w.alloc (.cells T 26)).alloc (.cells C 33)) (.cells D 26)
  refine ⟨?_, ?_, ?_, ?_, by omega⟩
  · rw [Below.heap_alloc _ _ _ (by omega), Below.heap_alloc _ _ _ (by omega)]; exact heap_alloc_new _ _
  · rw [Below.heap_alloc _ _ _ (by omega)]
    have := heap_alloc_new (w.alloc (.cells T 26)) (.cells C 33)
    rwa [s1] at this
  · have := heap_alloc_new ((w.alloc (.cells T 26)).alloc (.cells C 33)) (.cells D 26)
    rwa [s2, s1] at this
  · exact ((below_box w _).alloc (by omega) _).alloc (by omega) _

set_option maxRecDepth 20000 in
set_option maxHeartbeats 4000000 in
theorem add_new (ad : Option Addr) (cap n m : Nat) (nx ny : Int) (s : List UInt8) (kd md sz : Int) (mk : Bool) (w : World) (L M : List Rw) (hs : s ≠ []) (h0 : 0 ≤ ny) (h1 : ny ≤ 1000000000000)
    (KA : Hid (∀ W, Below w.heap.size w W → Calls Tryd.prog 28 #[.agg #[.slice ad n cap, .int .i64 nx], .string (bs s)] W fun e w' => e = .returned (.tuple #[.agg #[.string ⟨#[]⟩, .int .i64 0, .int .i64 0, .int .i64 0, .int .i64 0, .int .i64 0, .int .i64 0, .string ⟨#[]⟩, .string ⟨#[]⟩, .string ⟨#[]⟩, .slice none 0 0, .int .i64 0, .bool false], .bool false]) ∧ Below W.heap.size W w'))
    (KP : Hid (∀ W, Below w.heap.size w W → Calls Tryd.prog 30 #[.agg #[.slice ad n cap, .int .i64 nx], .string (bs s)] W fun e w' => ∃ ad2 c2, e = .returned (.tuple #[.agg #[.slice ad2 m c2, .int .i64 ny], .int .i64 0]) ∧ Rs w' ad2 L ∧ m ≤ c2 ∧ (ad2 = none → c2 = 0) ∧ Below W.heap.size W w'))
    (KT : Hid (∀ W ad2 c2, Rs W ad2 L → m ≤ c2 → (ad2 = none → c2 = 0) → Calls Tryd.prog 31 #[.agg #[.slice ad2 m c2, .int .i64 (ny + 1)], .agg #[.string (bs s), .int .i64 ny, .int .i64 kd, .int .i64 md, .int .i64 0, .int .i64 0, .int .i64 0, .string ⟨#[]⟩, .string ⟨#[]⟩, .string ⟨#[]⟩, .slice none 0 0, .int .i64 sz, .bool mk]] W fun e w' => ∃ gd c, e = .returned (.agg #[.slice (some ⟨gd, 0, none⟩) M.length c, .int .i64 (ny + 1)]) ∧ Rs w' (some ⟨gd, 0, none⟩) M ∧ W.heap.size ≤ gd ∧ M.length ≤ c ∧ Below W.heap.size W w')) :
    Calls Tryd.prog 10 #[.agg #[.slice ad n cap, .int .i64 nx], .string (bs s), .agg #[.int .i64 kd, .int .i64 md, .int .i64 0, .int .i64 0, .int .i64 0, .string ⟨#[]⟩, .string ⟨#[]⟩, .string ⟨#[]⟩, .slice none 0 0, .int .i64 sz, .bool mk]] w fun e w' => ∃ gd c, e = .returned (.tuple #[.agg #[.slice (some ⟨gd, 0, none⟩) M.length c, .int .i64 (ny + 1)], .int .i64 0]) ∧ Rs w' (some ⟨gd, 0, none⟩) M ∧ w.heap.size ≤ gd ∧ M.length ≤ c ∧ Below w.heap.size w w' := by
  have H0 := A3.mk0 w #[.slice ad n cap, .int .i64 nx] #[.int .i64 kd, .int .i64 md, .int .i64 0, .int .i64 0, .int .i64 0, .string ⟨#[]⟩, .string ⟨#[]⟩, .string ⟨#[]⟩, .slice none 0 0, .int .i64 sz, .bool mk] #[.slice none 0 0, .int .i64 0]
  have ht := bs_toList s
  have hE : s.isEmpty = false := by simpa using hs
  go_enter Tryd.func10, Tryd.ntmps10
  go_upto_region 4 with (first
    | (go_at_call 28; refine (KA.out _ H0.bel).mono ?_; rintro e w2 ⟨rfl, b2⟩; have H2 : Hid (A3 w w2 _ _ _) := H0.next b2; clear b2)
    | (refine wpList_store_row rfl 40 _ _ rfl w2.heap.size #[.string ⟨#[]⟩, .int .i64 0, .int .i64 0, .int .i64 0, .int .i64 0, .int .i64 0, .int .i64 0, .string ⟨#[]⟩, .string ⟨#[]⟩, .string ⟨#[]⟩, .slice none 0 0, .int .i64 0, .bool false] rfl rfl 40 _ (heap_alloc_new w2 _) (by kernel_rfl) rfl (by simp [Value.oneCell']) ?_))
  have b3 : Below w2.heap.size w2 ((w2.alloc (.cells #[.string ⟨#[]⟩, .int .i64 0, .int .i64 0, .int .i64 0, .int .i64 0, .int .i64 0, .int .i64 0, .string ⟨#[]⟩, .string ⟨#[]⟩, .string ⟨#[]⟩, .slice none 0 0, .int .i64 0, .bool false] 40)).setRow w2.heap.size #[.string ⟨#[]⟩, .int .i64 0, .int .i64 0, .int .i64 0, .int .i64 0, .int .i64 0, .int .i64 0, .string ⟨#[]⟩, .string ⟨#[]⟩, .string ⟨#[]⟩, .slice none 0 0, .int .i64 0, .bool false]) := below_setRow (below_box w2 _) (Nat.le_refl _) _
  have r3 := setRow_heap (w2.alloc (.cells #[.string ⟨#[]⟩, .int .i64 0, .int .i64 0, .int .i64 0, .int .i64 0, .int .i64 0, .int .i64 0, .string ⟨#[]⟩, .string ⟨#[]⟩, .string ⟨#[]⟩, .slice none 0 0, .int .i64 0, .bool false] 40)) w2.heap.size _ #[.string ⟨#[]⟩, .int .i64 0, .int .i64 0, .int .i64 0, .int .i64 0, .int .i64 0, .int .i64 0, .string ⟨#[]⟩, .string ⟨#[]⟩, .string ⟨#[]⟩, .slice none 0 0, .int .i64 0, .bool false] _ _ (heap_alloc_new w2 _)
  have l3 : w2.heap.size + 1 ≤ ((w2.alloc (.cells #[.string ⟨#[]⟩, .int .i64 0, .int .i64 0, .int .i64 0, .int .i64 0, .int .i64 0, .int .i64 0, .string ⟨#[]⟩, .string ⟨#[]⟩, .string ⟨#[]⟩, .slice none 0 0, .int .i64 0, .bool false] 40)).setRow w2.heap.size #[.string ⟨#[]⟩, .int .i64 0, .int .i64 0, .int .i64 0, .int .i64 0, .int .i64 0, .int .i64 0, .string ⟨#[]⟩, .string ⟨#[]⟩, .string ⟨#[]⟩, .slice none 0 0, .int .i64 0, .bool false]).heap.size := by rw [setRow_size, size_box]; exact Nat.le_refl _
  generalize (w2.alloc _).setRow _ _ = w3 at *
  have H3 := (H2.out.next b3).drew
  have r3' : w3.drew.heap[w2.heap.size]? = _ := r3
  have l3' : w2.heap.size + 1 ≤ w3.drew.heap.size := l3
  clear b3 r3 l3
  refine wp_region_held_drew (S := fun _ => True) (by kernel_rfl) trivial (fun hHeld => ?_)
  refine wpAnyH_take (i := 0) (v := .bool false) rfl (by kernel_rfl) (by kernel_rfl) (by kernel_rfl) (fun _ _ _ h => h) (Or.inl ⟨by rfl, fun W _ => by go_simp⟩) trivial ?_
  (try simp only [Act.put, List.getElem_toArray, List.getElem_cons_zero, List.getElem_cons_succ, List.setIfInBounds_toArray, List.set_cons_zero, List.set_cons_succ])
  refine wpAnyH_take (i := 1) (v := .bool false) rfl (by kernel_rfl) (by kernel_rfl) (by kernel_rfl) (fun _ _ _ h => h) (Or.inl ⟨by rfl, fun W _ => by go_simp⟩) trivial ?_
  (try simp only [Act.put, List.getElem_toArray, List.getElem_cons_zero, List.getElem_cons_succ, List.setIfInBounds_toArray, List.set_cons_zero, List.set_cons_succ])
  refine wpAnyH_take (i := 2) (v := undef) rfl (by kernel_rfl) (by kernel_rfl) (by kernel_rfl) (fun _ _ _ h => h) (Or.inr ⟨by rfl, rfl⟩) trivial ?_
  (try simp only [Act.put, List.getElem_toArray, List.getElem_cons_zero, List.getElem_cons_succ, List.setIfInBounds_toArray, List.set_cons_zero, List.set_cons_succ])
  refine wpAnyH_take (i := 3) (v := undef) rfl (by kernel_rfl) (by kernel_rfl) (by kernel_rfl) (fun _ _ _ h => h) (Or.inr ⟨by rfl, rfl⟩) trivial ?_
  (try simp only [Act.put, List.getElem_toArray, List.getElem_cons_zero, List.getElem_cons_succ, List.setIfInBounds_toArray, List.set_cons_zero, List.set_cons_succ])
  refine wpAnyH_take (i := 4) (v := undef) rfl (by kernel_rfl) (by kernel_rfl) (by kernel_rfl) (fun _ _ _ h => h) (Or.inr ⟨by rfl, rfl⟩) trivial ?_
  (try simp only [Act.put, List.getElem_toArray, List.getElem_cons_zero, List.getElem_cons_succ, List.setIfInBounds_toArray, List.set_cons_zero, List.set_cons_succ])
  refine wpAnyH_take (i := 5) (v := undef) rfl (by kernel_rfl) (by kernel_rfl) (by kernel_rfl) (fun _ _ _ h => h) (Or.inr ⟨by rfl, rfl⟩) trivial ?_
  (try simp only [Act.put, List.getElem_toArray, List.getElem_cons_zero, List.getElem_cons_succ, List.setIfInBounds_toArray, List.set_cons_zero, List.set_cons_succ])
  refine wpAnyH_take (i := 6) (v := undef) rfl (by kernel_rfl) (by kernel_rfl) (by kernel_rfl) (fun _ _ _ h => h) (Or.inr ⟨by rfl, rfl⟩) trivial ?_
  (try simp only [Act.put, List.getElem_toArray, List.getElem_cons_zero, List.getElem_cons_succ, List.setIfInBounds_toArray, List.set_cons_zero, List.set_cons_succ])
  refine wpAnyH_take (i := 7) (v := undef) rfl (by kernel_rfl) (by kernel_rfl) (by kernel_rfl) (fun _ _ _ h => h) (Or.inr ⟨by rfl, rfl⟩) trivial ?_
  (try simp only [Act.put, List.getElem_toArray, List.getElem_cons_zero, List.getElem_cons_succ, List.setIfInBounds_toArray, List.set_cons_zero, List.set_cons_succ])
  refine wpAnyH_take (i := 8) (v := .bool false) rfl (by kernel_rfl) (by kernel_rfl) (by kernel_rfl) (fun _ _ _ h => h) (Or.inl ⟨by rfl, fun W _ => by go_simp⟩) trivial ?_
  (try simp only [Act.put, List.getElem_toArray, List.getElem_cons_zero, List.getElem_cons_succ, List.setIfInBounds_toArray, List.set_cons_zero, List.set_cons_succ])
  refine wpAnyH_done (by kernel_rfl) ?_ _
  have c3 := cells_of H3.tre
  go_upto_region 9 with (first
    | (go_at_call 30; refine (KP.out _ H3.bel).mono ?_; rintro e w4 ⟨ad2, c2, rfl, R4, C4, N4, b4⟩; have H4 : Hid (A3 w w4 _ _ _) := H3.next b4; have r4 : Hid (w4.heap[w2.heap.size]? = _) := (b4.block _ (by omega)).trans r3'; have l4 : w2.heap.size + 1 ≤ w4.heap.size := Nat.le_trans l3' b4.size; clear b4))
  have b5 : Below w4.heap.size w4 (w4.alloc (.cells #[.slice ad2 m c2, .int .i64 ny] 26)) := below_box w4 _
  have q5 := heap_alloc_new w4 (.cells #[.slice ad2 m c2, .int .i64 ny] 26)
  have l5 := size_box w4 (.cells #[.slice ad2 m c2, .int .i64 ny] 26)
  generalize w4.alloc _ = w5 at *
  have H5 : Hid (A3 w w5 _ _ _) := A3.next H4.out b5
  have R5 : Hid (Rs w5 ad2 L) := R4.below b5
  have r5 : w5.heap[w2.heap.size]? = _ := (b5.block _ (by omega)).trans r4.out
  have c5 := cells_of r5
  have c6 := cells_of q5
  have f6 := froz_of q5
  have hw1 : IntKind.i64.wrap (ny + 1) = ny + 1 := by rw [IntKind.wrap_i64]; omega
  have X4 : Hid (w.heap.size + 3 ≤ w4.heap.size) := H4.out.lt
  have b56 : Hid (Below w4.heap.size w4 w5) := b5
  clear c3 b5 H4 r4
  go_upto_region 13 with (fail)
  have b6 : Below w4.heap.size w5 (w5.setCell ⟨w4.heap.size, 1, none⟩ (.int .i64 (ny + 1))) := (Below.refl w4.heap.size w5).setCell (by show w4.heap.size ≤ w4.heap.size; exact Nat.le_refl _) _
  have q6 : (w5.setCell ⟨w4.heap.size, 1, none⟩ (.int .i64 (ny + 1))).heap[w4.heap.size]? = some (.cells #[.slice ad2 m c2, .int .i64 (ny + 1)] 26 (0, 0)) := by
    rw [setCell_eq_setRow w5 w4.heap.size 1 _ 26 (0, 0) _ q5]
    exact setRow_heap _ _ _ _ _ _ q5
  have H6 : Hid (A3 w (w5.setCell ⟨w4.heap.size, 1, none⟩ (.int .i64 (ny + 1))) _ _ _) := ⟨by rw [b6.block _ (by have := X4.out; omega)]; exact H5.out.tre, by rw [b6.block _ (by have := X4.out; omega)]; exact H5.out.nod, by rw [b6.block _ (by have := X4.out; omega)]; exact H5.out.res, H5.out.bel.trans (b6.mono (by have := X4.out; omega)), Nat.le_trans H5.out.lt b6.size⟩
  have R6 : Hid (Rs (w5.setCell ⟨w4.heap.size, 1, none⟩ (.int .i64 (ny + 1))) ad2 L) := (R4.below (b56.out.trans b6))
  generalize w5.setCell _ _ = w6 at *
  clear c5 c6 f6 q5 r5
  have c7 := cells_of q6
  have c8 := cells_of H6.out.nod
  go_wp2_with (go_at_call 31; refine (KT.out _ ad2 c2 R6.out C4 N4).mono ?_; rintro e w7 ⟨gd, c, rfl, R7, G7, C7, b7⟩; have H7 : Hid (A3 w w7 _ _ _) := A3.next H6.out b7; have d3 := cells_of H7.out.res; have g3 := froz_of H7.out.res)
  have lt6 := H6.out.lt
  have e2 := two_set H7.out.res (.slice (some ⟨gd, 0, none⟩) M.length c) (.int .i64 (ny + 1))
  have R8 := R7.far (gd := gd) rfl (w.heap.size + 2) (by omega) (.slice (some ⟨gd, 0, none⟩) M.length c) (.int .i64 (ny + 1))
  have b8 : Below w.heap.size w ((w7.setCell ⟨w.heap.size + 2, 0, none⟩ (.slice (some ⟨gd, 0, none⟩) M.length c)).setCell ⟨w.heap.size + 2, 1, none⟩ (.int .i64 (ny + 1))) := (H7.out.bel.setCell (by show _ ≤ w.heap.size + 2; omega) _).setCell (by show _ ≤ w.heap.size + 2; omega) _
  have hld := run_loadVar_row _ _ _ 26 _ _ _ e2 Tryd.underlying26 rfl (by kernel_rfl)
  exact bodyPost_ret (by rw [results_cell_tmp rfl]; simp [asAddr, hld]) rfl ⟨gd, c, rfl, R8, by omega, C7, b8⟩

end Go.Proofs.YtojnniacmmcddaaDoor
