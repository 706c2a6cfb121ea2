/-
  Contract: Link where the directories can not be made; Link.
-/
import Derived.Test.YtojnniacmmcddaaDoorT8
namespace Go.Proofs.YtojnniacmmcddaaDoor
open Go.RowKit
open Go.Lib hiding intOf
set_option linter.unusedVariables false
set_option linter.unusedSimpArgs false

set_option maxRecDepth 20000 in
set_option maxHeartbeats 4000000 in
theorem link_par (ad : Option Addr) (cap n m : Nat) (nx : Int) (s tt : List UInt8) (w : World) (X : Option Addr → Nat → World → World → Prop) (hX : ∀ a c W W' x y, X a c W W' → w.heap.size + 1 < W.heap.size → X a c w ((W'.setCell ⟨w.heap.size + 1, 0, none⟩ x).setCell ⟨w.heap.size + 1, 1, none⟩ y)) (r q : Rw) (F : Bool) (hs : s ≠ []) (hrk : r.kind = 1) (hqk : q.kind ≠ 4)
    (KA : Hid (∀ W, Below w.heap.size w W → Calls Tryd.prog 28 #[.agg #[.slice ad n cap, .int .i64 nx], .string (bs tt)] W fun e w' => e = .returned (.tuple #[.agg #[.string (bs r.p), .int .i64 r.id, .int .i64 r.kind, .int .i64 r.mode, .int .i64 0, .int .i64 0, .int .i64 0, .string ⟨#[]⟩, .string ⟨#[]⟩, .string ⟨#[]⟩, .slice none 0 0, .int .i64 r.size, .bool r.made], .bool true]) ∧ Below W.heap.size W w'))
    (KB : Hid (∀ W, Below w.heap.size w W → Calls Tryd.prog 28 #[.agg #[.slice ad n cap, .int .i64 nx], .string (bs s)] W fun e w' => e = .returned (.tuple #[.agg #[.string (bs q.p), .int .i64 q.id, .int .i64 q.kind, .int .i64 q.mode, .int .i64 0, .int .i64 0, .int .i64 0, .string ⟨#[]⟩, .string ⟨#[]⟩, .string ⟨#[]⟩, .slice none 0 0, .int .i64 q.size, .bool q.made], .bool F]) ∧ Below W.heap.size W w'))
    (KP : Hid (∀ W, Below w.heap.size w W → Calls Tryd.prog 30 #[.agg #[.slice ad n cap, .int .i64 nx], .string (bs s)] W fun e w' => e = .returned (.tuple #[.agg #[.slice none 0 0, .int .i64 0], .int .i64 130]) ∧ Below W.heap.size W w'))
    (KT : Hid (∀ W, Below w.heap.size w W → Calls Tryd.prog 27 #[.agg #[.slice ad n cap, .int .i64 nx]] W fun e w' => ∃ a c, e = .returned (.agg #[.slice a m c, .int .i64 nx]) ∧ X a c W w' ∧ Below W.heap.size W w')) :
    Calls Tryd.prog 23 #[.agg #[.slice ad n cap, .int .i64 nx], .string (bs s), .string (bs tt)] w fun e w' => ∃ a c, e = .returned (.tuple #[.agg #[.slice a m c, .int .i64 nx], .int .i64 130]) ∧ X a c w w' ∧ Below w.heap.size w w' := by
  have k1 : (r.kind != 1) = false := by simp [hrk]
  have k2 : (r.kind == 1) = true := by simp [hrk]
  clear hrk
  have KD : Hid (∀ W, Calls Tryd.prog 29 #[.agg #[.string (bs q.p), .int .i64 q.id, .int .i64 q.kind, .int .i64 q.mode, .int .i64 0, .int .i64 0, .int .i64 0, .string ⟨#[]⟩, .string ⟨#[]⟩, .string ⟨#[]⟩, .slice none 0 0, .int .i64 q.size, .bool q.made]] W fun e w' => e = .returned (.bool false) ∧ Below W.heap.size W w') := fun W => by
    have := isDir_w q W
    rwa [decide_eq_false hqk] at this
  clear hqk
  have H0 := Two.mk0 w #[.slice ad n cap, .int .i64 nx] #[.slice none 0 0, .int .i64 0] 26 26
  have ht := bs_toList s
  have hE : s.isEmpty = false := by simpa using hs
  go_enter Tryd.func23, Tryd.ntmps23
  go_upto_region 4 with (first
    | (go_at_call 28; refine (KA.out _ H0.2.2.1).mono ?_; rintro e w2 ⟨rfl, b2⟩; have H2 : Hid (Two w w2 _ _ _ _) := H0.next b2; clear b2)
    | (refine wpList_store_row rfl 40 _ _ rfl w2.heap.size #[.string (bs r.p), .int .i64 r.id, .int .i64 r.kind, .int .i64 r.mode, .int .i64 0, .int .i64 0, .int .i64 0, .string ⟨#[]⟩, .string ⟨#[]⟩, .string ⟨#[]⟩, .slice none 0 0, .int .i64 r.size, .bool r.made] rfl rfl 40 _ (heap_alloc_new w2 _) (by kernel_rfl) rfl (by simp [Value.oneCell']) ?_))
  have b3 : Below w2.heap.size w2 ((w2.alloc (.cells #[.string ⟨#[]⟩, .int .i64 0, .int .i64 0, .int .i64 0, .int .i64 0, .int .i64 0, .int .i64 0, .string ⟨#[]⟩, .string ⟨#[]⟩, .string ⟨#[]⟩, .slice none 0 0, .int .i64 0, .bool false] 40)).setRow w2.heap.size #[.string (bs r.p), .int .i64 r.id, .int .i64 r.kind, .int .i64 r.mode, .int .i64 0, .int .i64 0, .int .i64 0, .string ⟨#[]⟩, .string ⟨#[]⟩, .string ⟨#[]⟩, .slice none 0 0, .int .i64 r.size, .bool r.made]) := below_setRow (below_box w2 _) (Nat.le_refl _) _
  have r3 := setRow_heap (w2.alloc (.cells #[.string ⟨#[]⟩, .int .i64 0, .int .i64 0, .int .i64 0, .int .i64 0, .int .i64 0, .int .i64 0, .string ⟨#[]⟩, .string ⟨#[]⟩, .string ⟨#[]⟩, .slice none 0 0, .int .i64 0, .bool false] 40)) w2.heap.size _ #[.string (bs r.p), .int .i64 r.id, .int .i64 r.kind, .int .i64 r.mode, .int .i64 0, .int .i64 0, .int .i64 0, .string ⟨#[]⟩, .string ⟨#[]⟩, .string ⟨#[]⟩, .slice none 0 0, .int .i64 r.size, .bool r.made] _ _ (heap_alloc_new w2 _)
  have l3 : w2.heap.size + 1 ≤ ((w2.alloc (.cells #[.string ⟨#[]⟩, .int .i64 0, .int .i64 0, .int .i64 0, .int .i64 0, .int .i64 0, .int .i64 0, .string ⟨#[]⟩, .string ⟨#[]⟩, .string ⟨#[]⟩, .slice none 0 0, .int .i64 0, .bool false] 40)).setRow w2.heap.size #[.string (bs r.p), .int .i64 r.id, .int .i64 r.kind, .int .i64 r.mode, .int .i64 0, .int .i64 0, .int .i64 0, .string ⟨#[]⟩, .string ⟨#[]⟩, .string ⟨#[]⟩, .slice none 0 0, .int .i64 r.size, .bool r.made]).heap.size := by rw [setRow_size, size_box]; exact Nat.le_refl _
  generalize (w2.alloc _).setRow _ _ = w3 at *
  have H3 : Hid (Two w w3 _ _ _ _) := H2.out.next b3
  have X2 : Hid (w.heap.size + 2 ≤ w2.heap.size) := H2.out.2.2.2
  clear H2 b3 H0
  have c3 := cells_of H3.out.1
  go_upto_region 7 with (first
    | (go_at_call 28; refine (KB.out _ H3.out.2.2.1).mono ?_; rintro e w4 ⟨rfl, b4⟩; have H4 : Hid (Two w w4 _ _ _ _) := H3.out.next b4; have r4 : Hid (w4.heap[w2.heap.size]? = _) := (b4.block _ (by omega)).trans r3; have l4 : w2.heap.size + 1 ≤ w4.heap.size := Nat.le_trans l3 b4.size; clear b4)
    | (refine wpList_store_row rfl 40 _ _ rfl w4.heap.size #[.string (bs q.p), .int .i64 q.id, .int .i64 q.kind, .int .i64 q.mode, .int .i64 0, .int .i64 0, .int .i64 0, .string ⟨#[]⟩, .string ⟨#[]⟩, .string ⟨#[]⟩, .slice none 0 0, .int .i64 q.size, .bool q.made] rfl rfl 40 _ (heap_alloc_new w4 _) (by kernel_rfl) rfl (by simp [Value.oneCell']) ?_))
  have b5 : Below w4.heap.size w4 ((w4.alloc (.cells #[.string ⟨#[]⟩, .int .i64 0, .int .i64 0, .int .i64 0, .int .i64 0, .int .i64 0, .int .i64 0, .string ⟨#[]⟩, .string ⟨#[]⟩, .string ⟨#[]⟩, .slice none 0 0, .int .i64 0, .bool false] 40)).setRow w4.heap.size #[.string (bs q.p), .int .i64 q.id, .int .i64 q.kind, .int .i64 q.mode, .int .i64 0, .int .i64 0, .int .i64 0, .string ⟨#[]⟩, .string ⟨#[]⟩, .string ⟨#[]⟩, .slice none 0 0, .int .i64 q.size, .bool q.made]) := below_setRow (below_box w4 _) (Nat.le_refl _) _
  have q5 := setRow_heap (w4.alloc (.cells #[.string ⟨#[]⟩, .int .i64 0, .int .i64 0, .int .i64 0, .int .i64 0, .int .i64 0, .int .i64 0, .string ⟨#[]⟩, .string ⟨#[]⟩, .string ⟨#[]⟩, .slice none 0 0, .int .i64 0, .bool false] 40)) w4.heap.size _ #[.string (bs q.p), .int .i64 q.id, .int .i64 q.kind, .int .i64 q.mode, .int .i64 0, .int .i64 0, .int .i64 0, .string ⟨#[]⟩, .string ⟨#[]⟩, .string ⟨#[]⟩, .slice none 0 0, .int .i64 q.size, .bool q.made] _ _ (heap_alloc_new w4 _)
  have l5 : w4.heap.size + 1 ≤ ((w4.alloc (.cells #[.string ⟨#[]⟩, .int .i64 0, .int .i64 0, .int .i64 0, .int .i64 0, .int .i64 0, .int .i64 0, .string ⟨#[]⟩, .string ⟨#[]⟩, .string ⟨#[]⟩, .slice none 0 0, .int .i64 0, .bool false] 40)).setRow w4.heap.size #[.string (bs q.p), .int .i64 q.id, .int .i64 q.kind, .int .i64 q.mode, .int .i64 0, .int .i64 0, .int .i64 0, .string ⟨#[]⟩, .string ⟨#[]⟩, .string ⟨#[]⟩, .slice none 0 0, .int .i64 q.size, .bool q.made]).heap.size := by rw [setRow_size, size_box]; exact Nat.le_refl _
  generalize (w4.alloc _).setRow _ _ = w5 at *
  have H5 : Hid (Two w w5 _ _ _ _) := H4.out.next b5
  have r5 : w5.heap[w2.heap.size]? = _ := (b5.block _ (by omega)).trans r4.out
  have c5 := cells_of r5
  have c6 := cells_of q5
  clear c3 H3 H4 r4 b5 r3
  go_upto_region 9 with (go_at_call 29; refine (KD.out _).mono ?_; rintro e w6 ⟨rfl, b6⟩; have H6 : Hid (Two w w6 _ _ _ _) := H5.out.next b6; have r6 : Hid (w6.heap[w2.heap.size]? = _) := (b6.block _ (by omega)).trans r5; have l6 : w2.heap.size + 1 ≤ w6.heap.size := Nat.le_trans (by omega) b6.size)
  clear c5 c6 q5 r5 H5 b6
  have c9 := cells_of H6.out.1
  go_upto_region 11 with (first
    | (go_at_call 30; refine (KP.out _ H6.out.2.2.1).mono ?_; rintro e w8 ⟨rfl, b8⟩; have H8 : Hid (Two w w8 _ _ _ _) := H6.out.next b8; clear b8))
  have b9 := below_box w8 (.cells #[.slice none 0 0, .int .i64 0] 26)
  generalize w8.alloc _ = w9 at *
  have H9 : Hid (Two w w9 _ _ _ _) := H8.out.next b9
  clear c9 H6 r6 H8 b9
  have c9 := cells_of H9.out.1
  go_wp2_with (go_at_call 27; refine (KT.out _ H9.out.2.2.1).mono ?_; rintro e w7 ⟨a, c, rfl, R7, b7⟩; have H7 : Hid (Two w w7 _ _ _ _) := H9.out.next b7; have d3 := cells_of H7.out.2.1; have g3 := froz_of H7.out.2.1)
  have lt5 := H9.out.2.2.2
  have e2 := two_set H7.out.2.1 (.slice a m c) (.int .i64 nx)
  have R8 := hX _ _ _ _ (.slice a m c) (.int .i64 nx) R7 (by omega)
  have b8 : Below w.heap.size w ((w7.setCell ⟨w.heap.size + 1, 0, none⟩ (.slice a m c)).setCell ⟨w.heap.size + 1, 1, none⟩ (.int .i64 nx)) := (H7.out.2.2.1.setCell (by show _ ≤ w.heap.size + 1; omega) _).setCell (by show _ ≤ w.heap.size + 1; omega) _
  have hld := run_loadVar_row _ _ _ 26 _ _ _ e2 Tryd.underlying26 rfl (by kernel_rfl)
  exact bodyPost_ret (by rw [results_cell_tmp rfl]; simp [asAddr, hld]) rfl ⟨a, c, rfl, R8, b8⟩

end Go.Proofs.YtojnniacmmcddaaDoor
