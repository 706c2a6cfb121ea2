/-
  Texts in one: Y0, Y1, Y2, Y3, Y4.
-/
import Derived.Test.YtpgiibpalmhhlaaGreatDoorMT
import Derived.Test.YtpgiibpalmhhlaaGreatDoorMW
namespace Go.Proofs.YtpgiibpalmhhlaaGreatDoor
open Go.RowKit
open Go.Lib hiding intOf
set_option linter.unusedVariables false
set_option linter.unusedSimpArgs false

set_option maxRecDepth 20000 in
set_option maxHeartbeats 4000000 in
theorem link_root (ad : Option Addr) (cap n m : Nat) (nx : Int) (tt : List UInt8) (w : World) (X : Option Addr → Nat → World → World → Prop) (hX : ∀ a c W W' x y, X a c W W' → w.heap.size + 1 < W.heap.size → X a c w ((W'.setCell ⟨w.heap.size + 1, 0, none⟩ x).setCell ⟨w.heap.size + 1, 1, none⟩ y))
    (KT : Hid (∀ W, Below w.heap.size w W → Calls Tryz.prog 41 #[.agg #[.slice ad n cap, .int .i64 nx]] W fun e w' => ∃ a c, e = .returned (.agg #[.slice a m c, .int .i64 nx]) ∧ X a c W w' ∧ Below W.heap.size W w')) :
    Calls Tryz.prog 25 #[.agg #[.slice ad n cap, .int .i64 nx], .string ⟨#[]⟩, .string (bs tt)] w fun e w' => ∃ a c, e = .returned (.tuple #[.agg #[.slice a m c, .int .i64 nx], .int .i64 100]) ∧ X a c w w' ∧ Below w.heap.size w w' := by
  have H0 : Hid (Two w ((w.alloc (.cells #[.slice ad n cap, .int .i64 nx] 26)).alloc (.cells #[.slice none 0 0, .int .i64 0] 26)) #[.slice ad n cap, .int .i64 nx] #[.slice none 0 0, .int .i64 0] 26 26) := Two.mk0 w #[.slice ad n cap, .int .i64 nx] #[.slice none 0 0, .int .i64 0] 26 26
  go_enter Tryz.func25, Tryz.ntmps25
  go_upto_region 2 with fail
  generalize (w.alloc _).alloc _ = w0 at *
  have c9 := cells_of H0.out.1
  go_wp2_with (go_at_call 41; refine (KT.out _ H0.out.2.2.1).mono ?_; rintro e w7 ⟨a, c, rfl, R7, b7⟩; have H7 : Hid (Two w w7 _ _ _ _) := H0.out.next b7; have d3 := cells_of H7.out.2.1; have g3 := froz_of H7.out.2.1)
  have lt5 := H0.out.2.2.2
  have e2 := two_set H7.out.2.1 (.slice a m c) (.int .i64 nx)
  have R8 := hX _ _ _ _ (.slice a m c) (.int .i64 nx) R7 (by omega)
  have b8 : Below w.heap.size w ((w7.setCell ⟨w.heap.size + 1, 0, none⟩ (.slice a m c)).setCell ⟨w.heap.size + 1, 1, none⟩ (.int .i64 nx)) := (H7.out.2.2.1.setCell (by show _ ≤ w.heap.size + 1; omega) _).setCell (by show _ ≤ w.heap.size + 1; omega) _
  have hld := run_loadVar_row _ _ _ 26 _ _ _ e2 Tryz.underlying26 rfl (by kernel_rfl)
  exact bodyPost_ret (by rw [results_cell_tmp rfl]; simp [asAddr, hld]) rfl ⟨a, c, rfl, R8, b8⟩

set_option maxRecDepth 20000 in
set_option maxHeartbeats 4000000 in
theorem link_miss (ad : Option Addr) (cap n m : Nat) (nx : Int) (s tt : List UInt8) (w : World) (X : Option Addr → Nat → World → World → Prop) (hX : ∀ a c W W' x y, X a c W W' → w.heap.size + 1 < W.heap.size → X a c w ((W'.setCell ⟨w.heap.size + 1, 0, none⟩ x).setCell ⟨w.heap.size + 1, 1, none⟩ y)) (hs : s ≠ [])
    (KA : Hid (∀ W, Below w.heap.size w W → Calls Tryz.prog 39 #[.agg #[.slice ad n cap, .int .i64 nx], .string (bs tt)] W fun e w' => e = .returned (.tuple #[.agg #[.string ⟨#[]⟩, .int .i64 0, .int .i64 0, .int .i64 0, .int .i64 0, .int .i64 0, .int .i64 0, .string ⟨#[]⟩, .string ⟨#[]⟩, .string ⟨#[]⟩, .slice none 0 0, .int .i64 0, .bool false], .bool false]) ∧ Below W.heap.size W w'))
    (KT : Hid (∀ W, Below w.heap.size w W → Calls Tryz.prog 41 #[.agg #[.slice ad n cap, .int .i64 nx]] W fun e w' => ∃ a c, e = .returned (.agg #[.slice a m c, .int .i64 nx]) ∧ X a c W w' ∧ Below W.heap.size W w')) :
    Calls Tryz.prog 25 #[.agg #[.slice ad n cap, .int .i64 nx], .string (bs s), .string (bs tt)] w fun e w' => ∃ a c, e = .returned (.tuple #[.agg #[.slice a m c, .int .i64 nx], .int .i64 4]) ∧ X a c w w' ∧ Below w.heap.size w w' := by
  have H0 := Two.mk0 w #[.slice ad n cap, .int .i64 nx] #[.slice none 0 0, .int .i64 0] 26 26
  have ht := bs_toList s
  have hE : s.isEmpty = false := by simpa using hs
  go_enter Tryz.func25, Tryz.ntmps25
  go_upto_region 4 with (first
    | (go_at_call 39; refine (KA.out _ H0.2.2.1).mono ?_; rintro e w2 ⟨rfl, b2⟩; have H2 : Hid (Two w w2 _ _ _ _) := H0.next b2; clear b2)
    | (refine wpList_store_row rfl 43 _ _ rfl w2.heap.size #[.string ⟨#[]⟩, .int .i64 0, .int .i64 0, .int .i64 0, .int .i64 0, .int .i64 0, .int .i64 0, .string ⟨#[]⟩, .string ⟨#[]⟩, .string ⟨#[]⟩, .slice none 0 0, .int .i64 0, .bool false] rfl rfl 43 _ (heap_alloc_new w2 _) (by kernel_rfl) rfl (by simp [Value.oneCell']) ?_))
  have b3 : Below w2.heap.size w2 ((w2.alloc (.cells #[.string ⟨#[]⟩, .int .i64 0, .int .i64 0, .int .i64 0, .int .i64 0, .int .i64 0, .int .i64 0, .string ⟨#[]⟩, .string ⟨#[]⟩, .string ⟨#[]⟩, .slice none 0 0, .int .i64 0, .bool false] 43)).setRow w2.heap.size #[.string ⟨#[]⟩, .int .i64 0, .int .i64 0, .int .i64 0, .int .i64 0, .int .i64 0, .int .i64 0, .string ⟨#[]⟩, .string ⟨#[]⟩, .string ⟨#[]⟩, .slice none 0 0, .int .i64 0, .bool false]) := below_setRow (below_box w2 _) (Nat.le_refl _) _
  have r3 := setRow_heap (w2.alloc (.cells #[.string ⟨#[]⟩, .int .i64 0, .int .i64 0, .int .i64 0, .int .i64 0, .int .i64 0, .int .i64 0, .string ⟨#[]⟩, .string ⟨#[]⟩, .string ⟨#[]⟩, .slice none 0 0, .int .i64 0, .bool false] 43)) w2.heap.size _ #[.string ⟨#[]⟩, .int .i64 0, .int .i64 0, .int .i64 0, .int .i64 0, .int .i64 0, .int .i64 0, .string ⟨#[]⟩, .string ⟨#[]⟩, .string ⟨#[]⟩, .slice none 0 0, .int .i64 0, .bool false] _ _ (heap_alloc_new w2 _)
  have l3 : w2.heap.size + 1 ≤ ((w2.alloc (.cells #[.string ⟨#[]⟩, .int .i64 0, .int .i64 0, .int .i64 0, .int .i64 0, .int .i64 0, .int .i64 0, .string ⟨#[]⟩, .string ⟨#[]⟩, .string ⟨#[]⟩, .slice none 0 0, .int .i64 0, .bool false] 43)).setRow w2.heap.size #[.string ⟨#[]⟩, .int .i64 0, .int .i64 0, .int .i64 0, .int .i64 0, .int .i64 0, .int .i64 0, .string ⟨#[]⟩, .string ⟨#[]⟩, .string ⟨#[]⟩, .slice none 0 0, .int .i64 0, .bool false]).heap.size := by rw [setRow_size, size_box]; exact Nat.le_refl _
  generalize (w2.alloc _).setRow _ _ = w3 at *
  have H3 : Hid (Two w w3 _ _ _ _) := H2.out.next b3
  have X2 : Hid (w.heap.size + 2 ≤ w2.heap.size) := H2.out.2.2.2
  clear H2 b3 H0
  have c9 := cells_of H3.out.1
  go_wp2_with (go_at_call 41; refine (KT.out _ H3.out.2.2.1).mono ?_; rintro e w7 ⟨a, c, rfl, R7, b7⟩; have H7 : Hid (Two w w7 _ _ _ _) := H3.out.next b7; have d3 := cells_of H7.out.2.1; have g3 := froz_of H7.out.2.1)
  have lt5 := H3.out.2.2.2
  have e2 := two_set H7.out.2.1 (.slice a m c) (.int .i64 nx)
  have R8 := hX _ _ _ _ (.slice a m c) (.int .i64 nx) R7 (by omega)
  have b8 : Below w.heap.size w ((w7.setCell ⟨w.heap.size + 1, 0, none⟩ (.slice a m c)).setCell ⟨w.heap.size + 1, 1, none⟩ (.int .i64 nx)) := (H7.out.2.2.1.setCell (by show _ ≤ w.heap.size + 1; omega) _).setCell (by show _ ≤ w.heap.size + 1; omega) _
  have hld := run_loadVar_row _ _ _ 26 _ _ _ e2 Tryz.underlying26 rfl (by kernel_rfl)
  exact bodyPost_ret (by rw [results_cell_tmp rfl]; simp [asAddr, hld]) rfl ⟨a, c, rfl, R8, b8⟩

end Go.Proofs.YtpgiibpalmhhlaaGreatDoor

namespace Go.Proofs.YtpgiibpalmhhlaaGreatDoor
open Go.RowKit
open Go.Lib hiding intOf
set_option linter.unusedVariables false
set_option linter.unusedSimpArgs false

set_option maxRecDepth 20000 in
set_option maxHeartbeats 4000000 in
theorem link_cl1 (ad : Option Addr) (cap n m : Nat) (nx : Int) (s tt : List UInt8) (w : World) (X : Option Addr → Nat → World → World → Prop) (hX : ∀ a c W W' x y, X a c W W' → w.heap.size + 1 < W.heap.size → X a c w ((W'.setCell ⟨w.heap.size + 1, 0, none⟩ x).setCell ⟨w.heap.size + 1, 1, none⟩ y)) (r q : Rw) (F : Bool) (hs : s ≠ []) (hrk : r.kind ≠ 1)
    (KA : Hid (∀ W, Below w.heap.size w W → Calls Tryz.prog 39 #[.agg #[.slice ad n cap, .int .i64 nx], .string (bs tt)] W fun e w' => e = .returned (.tuple #[.agg #[.string (bs r.p), .int .i64 r.id, .int .i64 r.kind, .int .i64 r.mode, .int .i64 0, .int .i64 0, .int .i64 0, .string ⟨#[]⟩, .string ⟨#[]⟩, .string ⟨#[]⟩, .slice none 0 0, .int .i64 r.size, .bool r.made], .bool true]) ∧ Below W.heap.size W w'))
    (KB : Hid (∀ W, Below w.heap.size w W → Calls Tryz.prog 39 #[.agg #[.slice ad n cap, .int .i64 nx], .string (bs s)] W fun e w' => e = .returned (.tuple #[.agg #[.string (bs q.p), .int .i64 q.id, .int .i64 q.kind, .int .i64 q.mode, .int .i64 0, .int .i64 0, .int .i64 0, .string ⟨#[]⟩, .string ⟨#[]⟩, .string ⟨#[]⟩, .slice none 0 0, .int .i64 q.size, .bool q.made], .bool F]) ∧ Below W.heap.size W w'))
    (KT : Hid (∀ W, Below w.heap.size w W → Calls Tryz.prog 41 #[.agg #[.slice ad n cap, .int .i64 nx]] W fun e w' => ∃ a c, e = .returned (.agg #[.slice a m c, .int .i64 nx]) ∧ X a c W w' ∧ Below W.heap.size W w')) :
    Calls Tryz.prog 25 #[.agg #[.slice ad n cap, .int .i64 nx], .string (bs s), .string (bs tt)] w fun e w' => ∃ a c, e = .returned (.tuple #[.agg #[.slice a m c, .int .i64 nx], .int .i64 130]) ∧ X a c w w' ∧ Below w.heap.size w w' := by
  have k1 : (r.kind != 1) = true := by simp [hrk]
  have k2 : (r.kind == 1) = false := by simp [hrk]
  clear hrk
  have H0 := Two.mk0 w #[.slice ad n cap, .int .i64 nx] #[.slice none 0 0, .int .i64 0] 26 26
  have ht := bs_toList s
  have hE : s.isEmpty = false := by simpa using hs
  go_enter Tryz.func25, Tryz.ntmps25
  go_upto_region 4 with (first
    | (go_at_call 39; refine (KA.out _ H0.2.2.1).mono ?_; rintro e w2 ⟨rfl, b2⟩; have H2 : Hid (Two w w2 _ _ _ _) := H0.next b2; clear b2)
    | (refine wpList_store_row rfl 43 _ _ rfl w2.heap.size #[.string (bs r.p), .int .i64 r.id, .int .i64 r.kind, .int .i64 r.mode, .int .i64 0, .int .i64 0, .int .i64 0, .string ⟨#[]⟩, .string ⟨#[]⟩, .string ⟨#[]⟩, .slice none 0 0, .int .i64 r.size, .bool r.made] rfl rfl 43 _ (heap_alloc_new w2 _) (by kernel_rfl) rfl (by simp [Value.oneCell']) ?_))
  have b3 : Below w2.heap.size w2 ((w2.alloc (.cells #[.string ⟨#[]⟩, .int .i64 0, .int .i64 0, .int .i64 0, .int .i64 0, .int .i64 0, .int .i64 0, .string ⟨#[]⟩, .string ⟨#[]⟩, .string ⟨#[]⟩, .slice none 0 0, .int .i64 0, .bool false] 43)).setRow w2.heap.size #[.string (bs r.p), .int .i64 r.id, .int .i64 r.kind, .int .i64 r.mode, .int .i64 0, .int .i64 0, .int .i64 0, .string ⟨#[]⟩, .string ⟨#[]⟩, .string ⟨#[]⟩, .slice none 0 0, .int .i64 r.size, .bool r.made]) := below_setRow (below_box w2 _) (Nat.le_refl _) _
  have r3 := setRow_heap (w2.alloc (.cells #[.string ⟨#[]⟩, .int .i64 0, .int .i64 0, .int .i64 0, .int .i64 0, .int .i64 0, .int .i64 0, .string ⟨#[]⟩, .string ⟨#[]⟩, .string ⟨#[]⟩, .slice none 0 0, .int .i64 0, .bool false] 43)) w2.heap.size _ #[.string (bs r.p), .int .i64 r.id, .int .i64 r.kind, .int .i64 r.mode, .int .i64 0, .int .i64 0, .int .i64 0, .string ⟨#[]⟩, .string ⟨#[]⟩, .string ⟨#[]⟩, .slice none 0 0, .int .i64 r.size, .bool r.made] _ _ (heap_alloc_new w2 _)
  have l3 : w2.heap.size + 1 ≤ ((w2.alloc (.cells #[.string ⟨#[]⟩, .int .i64 0, .int .i64 0, .int .i64 0, .int .i64 0, .int .i64 0, .int .i64 0, .string ⟨#[]⟩, .string ⟨#[]⟩, .string ⟨#[]⟩, .slice none 0 0, .int .i64 0, .bool false] 43)).setRow w2.heap.size #[.string (bs r.p), .int .i64 r.id, .int .i64 r.kind, .int .i64 r.mode, .int .i64 0, .int .i64 0, .int .i64 0, .string ⟨#[]⟩, .string ⟨#[]⟩, .string ⟨#[]⟩, .slice none 0 0, .int .i64 r.size, .bool r.made]).heap.size := by rw [setRow_size, size_box]; exact Nat.le_refl _
  generalize (w2.alloc _).setRow _ _ = w3 at *
  have H3 : Hid (Two w w3 _ _ _ _) := H2.out.next b3
  have X2 : Hid (w.heap.size + 2 ≤ w2.heap.size) := H2.out.2.2.2
  clear H2 b3 H0
  have c3 := cells_of H3.out.1
  go_upto_region 7 with (first
    | (go_at_call 39; refine (KB.out _ H3.out.2.2.1).mono ?_; rintro e w4 ⟨rfl, b4⟩; have H4 : Hid (Two w w4 _ _ _ _) := H3.out.next b4; have r4 : Hid (w4.heap[w2.heap.size]? = _) := (b4.block _ (by omega)).trans r3; have l4 : w2.heap.size + 1 ≤ w4.heap.size := Nat.le_trans l3 b4.size; clear b4)
    | (refine wpList_store_row rfl 43 _ _ rfl w4.heap.size #[.string (bs q.p), .int .i64 q.id, .int .i64 q.kind, .int .i64 q.mode, .int .i64 0, .int .i64 0, .int .i64 0, .string ⟨#[]⟩, .string ⟨#[]⟩, .string ⟨#[]⟩, .slice none 0 0, .int .i64 q.size, .bool q.made] rfl rfl 43 _ (heap_alloc_new w4 _) (by kernel_rfl) rfl (by simp [Value.oneCell']) ?_))
  have b5 : Below w4.heap.size w4 ((w4.alloc (.cells #[.string ⟨#[]⟩, .int .i64 0, .int .i64 0, .int .i64 0, .int .i64 0, .int .i64 0, .int .i64 0, .string ⟨#[]⟩, .string ⟨#[]⟩, .string ⟨#[]⟩, .slice none 0 0, .int .i64 0, .bool false] 43)).setRow w4.heap.size #[.string (bs q.p), .int .i64 q.id, .int .i64 q.kind, .int .i64 q.mode, .int .i64 0, .int .i64 0, .int .i64 0, .string ⟨#[]⟩, .string ⟨#[]⟩, .string ⟨#[]⟩, .slice none 0 0, .int .i64 q.size, .bool q.made]) := below_setRow (below_box w4 _) (Nat.le_refl _) _
  have q5 := setRow_heap (w4.alloc (.cells #[.string ⟨#[]⟩, .int .i64 0, .int .i64 0, .int .i64 0, .int .i64 0, .int .i64 0, .int .i64 0, .string ⟨#[]⟩, .string ⟨#[]⟩, .string ⟨#[]⟩, .slice none 0 0, .int .i64 0, .bool false] 43)) w4.heap.size _ #[.string (bs q.p), .int .i64 q.id, .int .i64 q.kind, .int .i64 q.mode, .int .i64 0, .int .i64 0, .int .i64 0, .string ⟨#[]⟩, .string ⟨#[]⟩, .string ⟨#[]⟩, .slice none 0 0, .int .i64 q.size, .bool q.made] _ _ (heap_alloc_new w4 _)
  have l5 : w4.heap.size + 1 ≤ ((w4.alloc (.cells #[.string ⟨#[]⟩, .int .i64 0, .int .i64 0, .int .i64 0, .int .i64 0, .int .i64 0, .int .i64 0, .string ⟨#[]⟩, .string ⟨#[]⟩, .string ⟨#[]⟩, .slice none 0 0, .int .i64 0, .bool false] 43)).setRow w4.heap.size #[.string (bs q.p), .int .i64 q.id, .int .i64 q.kind, .int .i64 q.mode, .int .i64 0, .int .i64 0, .int .i64 0, .string ⟨#[]⟩, .string ⟨#[]⟩, .string ⟨#[]⟩, .slice none 0 0, .int .i64 q.size, .bool q.made]).heap.size := by rw [setRow_size, size_box]; exact Nat.le_refl _
  generalize (w4.alloc _).setRow _ _ = w5 at *
  have H5 : Hid (Two w w5 _ _ _ _) := H4.out.next b5
  have r5 : w5.heap[w2.heap.size]? = _ := (b5.block _ (by omega)).trans r4.out
  have c5 := cells_of r5
  have c6 := cells_of q5
  clear c3 H3 H4 r4 b5 r3
  clear c6
  go_upto_region 8 with fail
  clear c5
  have c9 := cells_of H5.out.1
  go_wp2_with (go_at_call 41; refine (KT.out _ H5.out.2.2.1).mono ?_; rintro e w7 ⟨a, c, rfl, R7, b7⟩; have H7 : Hid (Two w w7 _ _ _ _) := H5.out.next b7; have d3 := cells_of H7.out.2.1; have g3 := froz_of H7.out.2.1)
  have lt5 := H5.out.2.2.2
  have e2 := two_set H7.out.2.1 (.slice a m c) (.int .i64 nx)
  have R8 := hX _ _ _ _ (.slice a m c) (.int .i64 nx) R7 (by omega)
  have b8 : Below w.heap.size w ((w7.setCell ⟨w.heap.size + 1, 0, none⟩ (.slice a m c)).setCell ⟨w.heap.size + 1, 1, none⟩ (.int .i64 nx)) := (H7.out.2.2.1.setCell (by show _ ≤ w.heap.size + 1; omega) _).setCell (by show _ ≤ w.heap.size + 1; omega) _
  have hld := run_loadVar_row _ _ _ 26 _ _ _ e2 Tryz.underlying26 rfl (by kernel_rfl)
  exact bodyPost_ret (by rw [results_cell_tmp rfl]; simp [asAddr, hld]) rfl ⟨a, c, rfl, R8, b8⟩

set_option maxRecDepth 20000 in
set_option maxHeartbeats 4000000 in
theorem link_cl2 (ad : Option Addr) (cap n m : Nat) (nx : Int) (s tt : List UInt8) (w : World) (X : Option Addr → Nat → World → World → Prop) (hX : ∀ a c W W' x y, X a c W W' → w.heap.size + 1 < W.heap.size → X a c w ((W'.setCell ⟨w.heap.size + 1, 0, none⟩ x).setCell ⟨w.heap.size + 1, 1, none⟩ y)) (r q : Rw) (F : Bool) (hs : s ≠ []) (hrk : r.kind = 1) (hqk : q.kind = 4)
    (KA : Hid (∀ W, Below w.heap.size w W → Calls Tryz.prog 39 #[.agg #[.slice ad n cap, .int .i64 nx], .string (bs tt)] W fun e w' => e = .returned (.tuple #[.agg #[.string (bs r.p), .int .i64 r.id, .int .i64 r.kind, .int .i64 r.mode, .int .i64 0, .int .i64 0, .int .i64 0, .string ⟨#[]⟩, .string ⟨#[]⟩, .string ⟨#[]⟩, .slice none 0 0, .int .i64 r.size, .bool r.made], .bool true]) ∧ Below W.heap.size W w'))
    (KB : Hid (∀ W, Below w.heap.size w W → Calls Tryz.prog 39 #[.agg #[.slice ad n cap, .int .i64 nx], .string (bs s)] W fun e w' => e = .returned (.tuple #[.agg #[.string (bs q.p), .int .i64 q.id, .int .i64 q.kind, .int .i64 q.mode, .int .i64 0, .int .i64 0, .int .i64 0, .string ⟨#[]⟩, .string ⟨#[]⟩, .string ⟨#[]⟩, .slice none 0 0, .int .i64 q.size, .bool q.made], .bool F]) ∧ Below W.heap.size W w'))
    (KT : Hid (∀ W, Below w.heap.size w W → Calls Tryz.prog 41 #[.agg #[.slice ad n cap, .int .i64 nx]] W fun e w' => ∃ a c, e = .returned (.agg #[.slice a m c, .int .i64 nx]) ∧ X a c W w' ∧ Below W.heap.size W w')) :
    Calls Tryz.prog 25 #[.agg #[.slice ad n cap, .int .i64 nx], .string (bs s), .string (bs tt)] w fun e w' => ∃ a c, e = .returned (.tuple #[.agg #[.slice a m c, .int .i64 nx], .int .i64 130]) ∧ X a c w w' ∧ Below w.heap.size w w' := by
  have k1 : (r.kind != 1) = false := by simp [hrk]
  have k2 : (r.kind == 1) = true := by simp [hrk]
  clear hrk
  have KD : Hid (∀ W, Calls Tryz.prog 42 #[.agg #[.string (bs q.p), .int .i64 q.id, .int .i64 q.kind, .int .i64 q.mode, .int .i64 0, .int .i64 0, .int .i64 0, .string ⟨#[]⟩, .string ⟨#[]⟩, .string ⟨#[]⟩, .slice none 0 0, .int .i64 q.size, .bool q.made]] W fun e w' => e = .returned (.bool true) ∧ Below W.heap.size W w') := fun W => by
    have := isDir_w q W
    rwa [decide_eq_true hqk] at this
  clear hqk
  have H0 := Two.mk0 w #[.slice ad n cap, .int .i64 nx] #[.slice none 0 0, .int .i64 0] 26 26
  have ht := bs_toList s
  have hE : s.isEmpty = false := by simpa using hs
  go_enter Tryz.func25, Tryz.ntmps25
  go_upto_region 4 with (first
    | (go_at_call 39; refine (KA.out _ H0.2.2.1).mono ?_; rintro e w2 ⟨rfl, b2⟩; have H2 : Hid (Two w w2 _ _ _ _) := H0.next b2; clear b2)
    | (refine wpList_store_row rfl 43 _ _ rfl w2.heap.size #[.string (bs r.p), .int .i64 r.id, .int .i64 r.kind, .int .i64 r.mode, .int .i64 0, .int .i64 0, .int .i64 0, .string ⟨#[]⟩, .string ⟨#[]⟩, .string ⟨#[]⟩, .slice none 0 0, .int .i64 r.size, .bool r.made] rfl rfl 43 _ (heap_alloc_new w2 _) (by kernel_rfl) rfl (by simp [Value.oneCell']) ?_))
  have b3 : Below w2.heap.size w2 ((w2.alloc (.cells #[.string ⟨#[]⟩, .int .i64 0, .int .i64 0, .int .i64 0, .int .i64 0, .int .i64 0, .int .i64 0, .string ⟨#[]⟩, .string ⟨#[]⟩, .string ⟨#[]⟩, .slice none 0 0, .int .i64 0, .bool false] 43)).setRow w2.heap.size #[.string (bs r.p), .int .i64 r.id, .int .i64 r.kind, .int .i64 r.mode, .int .i64 0, .int .i64 0, .int .i64 0, .string ⟨#[]⟩, .string ⟨#[]⟩, .string ⟨#[]⟩, .slice none 0 0, .int .i64 r.size, .bool r.made]) := below_setRow (below_box w2 _) (Nat.le_refl _) _
  have r3 := setRow_heap (w2.alloc (.cells #[.string ⟨#[]⟩, .int .i64 0, .int .i64 0, .int .i64 0, .int .i64 0, .int .i64 0, .int .i64 0, .string ⟨#[]⟩, .string ⟨#[]⟩, .string ⟨#[]⟩, .slice none 0 0, .int .i64 0, .bool false] 43)) w2.heap.size _ #[.string (bs r.p), .int .i64 r.id, .int .i64 r.kind, .int .i64 r.mode, .int .i64 0, .int .i64 0, .int .i64 0, .string ⟨#[]⟩, .string ⟨#[]⟩, .string ⟨#[]⟩, .slice none 0 0, .int .i64 r.size, .bool r.made] _ _ (heap_alloc_new w2 _)
  have l3 : w2.heap.size + 1 ≤ ((w2.alloc (.cells #[.string ⟨#[]⟩, .int .i64 0, .int .i64 0, .int .i64 0, .int .i64 0, .int .i64 0, .int .i64 0, .string ⟨#[]⟩, .string ⟨#[]⟩, .string ⟨#[]⟩, .slice none 0 0, .int .i64 0, .bool false] 43)).setRow w2.heap.size #[.string (bs r.p), .int .i64 r.id, .int .i64 r.kind, .int .i64 r.mode, .int .i64 0, .int .i64 0, .int .i64 0, .string ⟨#[]⟩, .string ⟨#[]⟩, .string ⟨#[]⟩, .slice none 0 0, .int .i64 r.size, .bool r.made]).heap.size := by rw [setRow_size, size_box]; exact Nat.le_refl _
  generalize (w2.alloc _).setRow _ _ = w3 at *
  have H3 : Hid (Two w w3 _ _ _ _) := H2.out.next b3
  have X2 : Hid (w.heap.size + 2 ≤ w2.heap.size) := H2.out.2.2.2
  clear H2 b3 H0
  have c3 := cells_of H3.out.1
  go_upto_region 7 with (first
    | (go_at_call 39; refine (KB.out _ H3.out.2.2.1).mono ?_; rintro e w4 ⟨rfl, b4⟩; have H4 : Hid (Two w w4 _ _ _ _) := H3.out.next b4; have r4 : Hid (w4.heap[w2.heap.size]? = _) := (b4.block _ (by omega)).trans r3; have l4 : w2.heap.size + 1 ≤ w4.heap.size := Nat.le_trans l3 b4.size; clear b4)
    | (refine wpList_store_row rfl 43 _ _ rfl w4.heap.size #[.string (bs q.p), .int .i64 q.id, .int .i64 q.kind, .int .i64 q.mode, .int .i64 0, .int .i64 0, .int .i64 0, .string ⟨#[]⟩, .string ⟨#[]⟩, .string ⟨#[]⟩, .slice none 0 0, .int .i64 q.size, .bool q.made] rfl rfl 43 _ (heap_alloc_new w4 _) (by kernel_rfl) rfl (by simp [Value.oneCell']) ?_))
  have b5 : Below w4.heap.size w4 ((w4.alloc (.cells #[.string ⟨#[]⟩, .int .i64 0, .int .i64 0, .int .i64 0, .int .i64 0, .int .i64 0, .int .i64 0, .string ⟨#[]⟩, .string ⟨#[]⟩, .string ⟨#[]⟩, .slice none 0 0, .int .i64 0, .bool false] 43)).setRow w4.heap.size #[.string (bs q.p), .int .i64 q.id, .int .i64 q.kind, .int .i64 q.mode, .int .i64 0, .int .i64 0, .int .i64 0, .string ⟨#[]⟩, .string ⟨#[]⟩, .string ⟨#[]⟩, .slice none 0 0, .int .i64 q.size, .bool q.made]) := below_setRow (below_box w4 _) (Nat.le_refl _) _
  have q5 := setRow_heap (w4.alloc (.cells #[.string ⟨#[]⟩, .int .i64 0, .int .i64 0, .int .i64 0, .int .i64 0, .int .i64 0, .int .i64 0, .string ⟨#[]⟩, .string ⟨#[]⟩, .string ⟨#[]⟩, .slice none 0 0, .int .i64 0, .bool false] 43)) w4.heap.size _ #[.string (bs q.p), .int .i64 q.id, .int .i64 q.kind, .int .i64 q.mode, .int .i64 0, .int .i64 0, .int .i64 0, .string ⟨#[]⟩, .string ⟨#[]⟩, .string ⟨#[]⟩, .slice none 0 0, .int .i64 q.size, .bool q.made] _ _ (heap_alloc_new w4 _)
  have l5 : w4.heap.size + 1 ≤ ((w4.alloc (.cells #[.string ⟨#[]⟩, .int .i64 0, .int .i64 0, .int .i64 0, .int .i64 0, .int .i64 0, .int .i64 0, .string ⟨#[]⟩, .string ⟨#[]⟩, .string ⟨#[]⟩, .slice none 0 0, .int .i64 0, .bool false] 43)).setRow w4.heap.size #[.string (bs q.p), .int .i64 q.id, .int .i64 q.kind, .int .i64 q.mode, .int .i64 0, .int .i64 0, .int .i64 0, .string ⟨#[]⟩, .string ⟨#[]⟩, .string ⟨#[]⟩, .slice none 0 0, .int .i64 q.size, .bool q.made]).heap.size := by rw [setRow_size, size_box]; exact Nat.le_refl _
  generalize (w4.alloc _).setRow _ _ = w5 at *
  have H5 : Hid (Two w w5 _ _ _ _) := H4.out.next b5
  have r5 : w5.heap[w2.heap.size]? = _ := (b5.block _ (by omega)).trans r4.out
  have c5 := cells_of r5
  have c6 := cells_of q5
  clear c3 H3 H4 r4 b5 r3
  go_upto_region 8 with (go_at_call 42; refine (KD.out _).mono ?_; rintro e w6 ⟨rfl, b6⟩; have H6 : Hid (Two w w6 _ _ _ _) := H5.out.next b6; have r6 : Hid (w6.heap[w2.heap.size]? = _) := (b6.block _ (by omega)).trans r5; have l6 : w2.heap.size + 1 ≤ w6.heap.size := Nat.le_trans (by omega) b6.size)
  clear c5 c6 q5 r5 H5 b6
  have c9 := cells_of H6.out.1
  go_wp2_with (go_at_call 41; refine (KT.out _ H6.out.2.2.1).mono ?_; rintro e w7 ⟨a, c, rfl, R7, b7⟩; have H7 : Hid (Two w w7 _ _ _ _) := H6.out.next b7; have d3 := cells_of H7.out.2.1; have g3 := froz_of H7.out.2.1)
  have lt5 := H6.out.2.2.2
  have e2 := two_set H7.out.2.1 (.slice a m c) (.int .i64 nx)
  have R8 := hX _ _ _ _ (.slice a m c) (.int .i64 nx) R7 (by omega)
  have b8 : Below w.heap.size w ((w7.setCell ⟨w.heap.size + 1, 0, none⟩ (.slice a m c)).setCell ⟨w.heap.size + 1, 1, none⟩ (.int .i64 nx)) := (H7.out.2.2.1.setCell (by show _ ≤ w.heap.size + 1; omega) _).setCell (by show _ ≤ w.heap.size + 1; omega) _
  have hld := run_loadVar_row _ _ _ 26 _ _ _ e2 Tryz.underlying26 rfl (by kernel_rfl)
  exact bodyPost_ret (by rw [results_cell_tmp rfl]; simp [asAddr, hld]) rfl ⟨a, c, rfl, R8, b8⟩

end Go.Proofs.YtpgiibpalmhhlaaGreatDoor

namespace Go.Proofs.YtpgiibpalmhhlaaGreatDoor
open Go.RowKit
open Go.Lib hiding intOf
set_option linter.unusedVariables false
set_option linter.unusedSimpArgs false

set_option maxRecDepth 20000 in
set_option maxHeartbeats 4000000 in
theorem link_par (ad : Option Addr) (cap n m : Nat) (nx : Int) (s tt : List UInt8) (w : World) (X : Option Addr → Nat → World → World → Prop) (hX : ∀ a c W W' x y, X a c W W' → w.heap.size + 1 < W.heap.size → X a c w ((W'.setCell ⟨w.heap.size + 1, 0, none⟩ x).setCell ⟨w.heap.size + 1, 1, none⟩ y)) (r q : Rw) (F : Bool) (hs : s ≠ []) (hrk : r.kind = 1) (hqk : q.kind ≠ 4)
    (KA : Hid (∀ W, Below w.heap.size w W → Calls Tryz.prog 39 #[.agg #[.slice ad n cap, .int .i64 nx], .string (bs tt)] W fun e w' => e = .returned (.tuple #[.agg #[.string (bs r.p), .int .i64 r.id, .int .i64 r.kind, .int .i64 r.mode, .int .i64 0, .int .i64 0, .int .i64 0, .string ⟨#[]⟩, .string ⟨#[]⟩, .string ⟨#[]⟩, .slice none 0 0, .int .i64 r.size, .bool r.made], .bool true]) ∧ Below W.heap.size W w'))
    (KB : Hid (∀ W, Below w.heap.size w W → Calls Tryz.prog 39 #[.agg #[.slice ad n cap, .int .i64 nx], .string (bs s)] W fun e w' => e = .returned (.tuple #[.agg #[.string (bs q.p), .int .i64 q.id, .int .i64 q.kind, .int .i64 q.mode, .int .i64 0, .int .i64 0, .int .i64 0, .string ⟨#[]⟩, .string ⟨#[]⟩, .string ⟨#[]⟩, .slice none 0 0, .int .i64 q.size, .bool q.made], .bool F]) ∧ Below W.heap.size W w'))
    (KP : Hid (∀ W, Below w.heap.size w W → Calls Tryz.prog 43 #[.agg #[.slice ad n cap, .int .i64 nx], .string (bs s)] W fun e w' => e = .returned (.tuple #[.agg #[.slice none 0 0, .int .i64 0], .int .i64 130]) ∧ Below W.heap.size W w'))
    (KT : Hid (∀ W, Below w.heap.size w W → Calls Tryz.prog 41 #[.agg #[.slice ad n cap, .int .i64 nx]] W fun e w' => ∃ a c, e = .returned (.agg #[.slice a m c, .int .i64 nx]) ∧ X a c W w' ∧ Below W.heap.size W w')) :
    Calls Tryz.prog 25 #[.agg #[.slice ad n cap, .int .i64 nx], .string (bs s), .string (bs tt)] w fun e w' => ∃ a c, e = .returned (.tuple #[.agg #[.slice a m c, .int .i64 nx], .int .i64 130]) ∧ X a c w w' ∧ Below w.heap.size w w' := by
  have k1 : (r.kind != 1) = false := by simp [hrk]
  have k2 : (r.kind == 1) = true := by simp [hrk]
  clear hrk
  have KD : Hid (∀ W, Calls Tryz.prog 42 #[.agg #[.string (bs q.p), .int .i64 q.id, .int .i64 q.kind, .int .i64 q.mode, .int .i64 0, .int .i64 0, .int .i64 0, .string ⟨#[]⟩, .string ⟨#[]⟩, .string ⟨#[]⟩, .slice none 0 0, .int .i64 q.size, .bool q.made]] W fun e w' => e = .returned (.bool false) ∧ Below W.heap.size W w') := fun W => by
    have := isDir_w q W
    rwa [decide_eq_false hqk] at this
  clear hqk
  have H0 := Two.mk0 w #[.slice ad n cap, .int .i64 nx] #[.slice none 0 0, .int .i64 0] 26 26
  have ht := bs_toList s
  have hE : s.isEmpty = false := by simpa using hs
  go_enter Tryz.func25, Tryz.ntmps25
  go_upto_region 4 with (first
    | (go_at_call 39; refine (KA.out _ H0.2.2.1).mono ?_; rintro e w2 ⟨rfl, b2⟩; have H2 : Hid (Two w w2 _ _ _ _) := H0.next b2; clear b2)
    | (refine wpList_store_row rfl 43 _ _ rfl w2.heap.size #[.string (bs r.p), .int .i64 r.id, .int .i64 r.kind, .int .i64 r.mode, .int .i64 0, .int .i64 0, .int .i64 0, .string ⟨#[]⟩, .string ⟨#[]⟩, .string ⟨#[]⟩, .slice none 0 0, .int .i64 r.size, .bool r.made] rfl rfl 43 _ (heap_alloc_new w2 _) (by kernel_rfl) rfl (by simp [Value.oneCell']) ?_))
  have b3 : Below w2.heap.size w2 ((w2.alloc (.cells #[.string ⟨#[]⟩, .int .i64 0, .int .i64 0, .int .i64 0, .int .i64 0, .int .i64 0, .int .i64 0, .string ⟨#[]⟩, .string ⟨#[]⟩, .string ⟨#[]⟩, .slice none 0 0, .int .i64 0, .bool false] 43)).setRow w2.heap.size #[.string (bs r.p), .int .i64 r.id, .int .i64 r.kind, .int .i64 r.mode, .int .i64 0, .int .i64 0, .int .i64 0, .string ⟨#[]⟩, .string ⟨#[]⟩, .string ⟨#[]⟩, .slice none 0 0, .int .i64 r.size, .bool r.made]) := below_setRow (below_box w2 _) (Nat.le_refl _) _
  have r3 := setRow_heap (w2.alloc (.cells #[.string ⟨#[]⟩, .int .i64 0, .int .i64 0, .int .i64 0, .int .i64 0, .int .i64 0, .int .i64 0, .string ⟨#[]⟩, .string ⟨#[]⟩, .string ⟨#[]⟩, .slice none 0 0, .int .i64 0, .bool false] 43)) w2.heap.size _ #[.string (bs r.p), .int .i64 r.id, .int .i64 r.kind, .int .i64 r.mode, .int .i64 0, .int .i64 0, .int .i64 0, .string ⟨#[]⟩, .string ⟨#[]⟩, .string ⟨#[]⟩, .slice none 0 0, .int .i64 r.size, .bool r.made] _ _ (heap_alloc_new w2 _)
  have l3 : w2.heap.size + 1 ≤ ((w2.alloc (.cells #[.string ⟨#[]⟩, .int .i64 0, .int .i64 0, .int .i64 0, .int .i64 0, .int .i64 0, .int .i64 0, .string ⟨#[]⟩, .string ⟨#[]⟩, .string ⟨#[]⟩, .slice none 0 0, .int .i64 0, .bool false] 43)).setRow w2.heap.size #[.string (bs r.p), .int .i64 r.id, .int .i64 r.kind, .int .i64 r.mode, .int .i64 0, .int .i64 0, .int .i64 0, .string ⟨#[]⟩, .string ⟨#[]⟩, .string ⟨#[]⟩, .slice none 0 0, .int .i64 r.size, .bool r.made]).heap.size := by rw [setRow_size, size_box]; exact Nat.le_refl _
  generalize (w2.alloc _).setRow _ _ = w3 at *
  have H3 : Hid (Two w w3 _ _ _ _) := H2.out.next b3
  have X2 : Hid (w.heap.size + 2 ≤ w2.heap.size) := H2.out.2.2.2
  clear H2 b3 H0
  have c3 := cells_of H3.out.1
  go_upto_region 7 with (first
    | (go_at_call 39; refine (KB.out _ H3.out.2.2.1).mono ?_; rintro e w4 ⟨rfl, b4⟩; have H4 : Hid (Two w w4 _ _ _ _) := H3.out.next b4; have r4 : Hid (w4.heap[w2.heap.size]? = _) := (b4.block _ (by omega)).trans r3; have l4 : w2.heap.size + 1 ≤ w4.heap.size := Nat.le_trans l3 b4.size; clear b4)
    | (refine wpList_store_row rfl 43 _ _ rfl w4.heap.size #[.string (bs q.p), .int .i64 q.id, .int .i64 q.kind, .int .i64 q.mode, .int .i64 0, .int .i64 0, .int .i64 0, .string ⟨#[]⟩, .string ⟨#[]⟩, .string ⟨#[]⟩, .slice none 0 0, .int .i64 q.size, .bool q.made] rfl rfl 43 _ (heap_alloc_new w4 _) (by kernel_rfl) rfl (by simp [Value.oneCell']) ?_))
  have b5 : Below w4.heap.size w4 ((w4.alloc (.cells #[.string ⟨#[]⟩, .int .i64 0, .int .i64 0, .int .i64 0, .int .i64 0, .int .i64 0, .int .i64 0, .string ⟨#[]⟩, .string ⟨#[]⟩, .string ⟨#[]⟩, .slice none 0 0, .int .i64 0, .bool false] 43)).setRow w4.heap.size #[.string (bs q.p), .int .i64 q.id, .int .i64 q.kind, .int .i64 q.mode, .int .i64 0, .int .i64 0, .int .i64 0, .string ⟨#[]⟩, .string ⟨#[]⟩, .string ⟨#[]⟩, .slice none 0 0, .int .i64 q.size, .bool q.made]) := below_setRow (below_box w4 _) (Nat.le_refl _) _
  have q5 := setRow_heap (w4.alloc (.cells #[.string ⟨#[]⟩, .int .i64 0, .int .i64 0, .int .i64 0, .int .i64 0, .int .i64 0, .int .i64 0, .string ⟨#[]⟩, .string ⟨#[]⟩, .string ⟨#[]⟩, .slice none 0 0, .int .i64 0, .bool false] 43)) w4.heap.size _ #[.string (bs q.p), .int .i64 q.id, .int .i64 q.kind, .int .i64 q.mode, .int .i64 0, .int .i64 0, .int .i64 0, .string ⟨#[]⟩, .string ⟨#[]⟩, .string ⟨#[]⟩, .slice none 0 0, .int .i64 q.size, .bool q.made] _ _ (heap_alloc_new w4 _)
  have l5 : w4.heap.size + 1 ≤ ((w4.alloc (.cells #[.string ⟨#[]⟩, .int .i64 0, .int .i64 0, .int .i64 0, .int .i64 0, .int .i64 0, .int .i64 0, .string ⟨#[]⟩, .string ⟨#[]⟩, .string ⟨#[]⟩, .slice none 0 0, .int .i64 0, .bool false] 43)).setRow w4.heap.size #[.string (bs q.p), .int .i64 q.id, .int .i64 q.kind, .int .i64 q.mode, .int .i64 0, .int .i64 0, .int .i64 0, .string ⟨#[]⟩, .string ⟨#[]⟩, .string ⟨#[]⟩, .slice none 0 0, .int .i64 q.size, .bool q.made]).heap.size := by rw [setRow_size, size_box]; exact Nat.le_refl _
  generalize (w4.alloc _).setRow _ _ = w5 at *
  have H5 : Hid (Two w w5 _ _ _ _) := H4.out.next b5
  have r5 : w5.heap[w2.heap.size]? = _ := (b5.block _ (by omega)).trans r4.out
  have c5 := cells_of r5
  have c6 := cells_of q5
  clear c3 H3 H4 r4 b5 r3
  go_upto_region 9 with (go_at_call 42; refine (KD.out _).mono ?_; rintro e w6 ⟨rfl, b6⟩; have H6 : Hid (Two w w6 _ _ _ _) := H5.out.next b6; have r6 : Hid (w6.heap[w2.heap.size]? = _) := (b6.block _ (by omega)).trans r5; have l6 : w2.heap.size + 1 ≤ w6.heap.size := Nat.le_trans (by omega) b6.size)
  clear c5 c6 q5 r5 H5 b6
  have c9 := cells_of H6.out.1
  go_upto_region 11 with (first
    | (go_at_call 43; refine (KP.out _ H6.out.2.2.1).mono ?_; rintro e w8 ⟨rfl, b8⟩; have H8 : Hid (Two w w8 _ _ _ _) := H6.out.next b8; clear b8))
  have b9 := below_box w8 (.cells #[.slice none 0 0, .int .i64 0] 26)
  generalize w8.alloc _ = w9 at *
  have H9 : Hid (Two w w9 _ _ _ _) := H8.out.next b9
  clear c9 H6 r6 H8 b9
  have c9 := cells_of H9.out.1
  go_wp2_with (go_at_call 41; refine (KT.out _ H9.out.2.2.1).mono ?_; rintro e w7 ⟨a, c, rfl, R7, b7⟩; have H7 : Hid (Two w w7 _ _ _ _) := H9.out.next b7; have d3 := cells_of H7.out.2.1; have g3 := froz_of H7.out.2.1)
  have lt5 := H9.out.2.2.2
  have e2 := two_set H7.out.2.1 (.slice a m c) (.int .i64 nx)
  have R8 := hX _ _ _ _ (.slice a m c) (.int .i64 nx) R7 (by omega)
  have b8 : Below w.heap.size w ((w7.setCell ⟨w.heap.size + 1, 0, none⟩ (.slice a m c)).setCell ⟨w.heap.size + 1, 1, none⟩ (.int .i64 nx)) := (H7.out.2.2.1.setCell (by show _ ≤ w.heap.size + 1; omega) _).setCell (by show _ ≤ w.heap.size + 1; omega) _
  have hld := run_loadVar_row _ _ _ 26 _ _ _ e2 Tryz.underlying26 rfl (by kernel_rfl)
  exact bodyPost_ret (by rw [results_cell_tmp rfl]; simp [asAddr, hld]) rfl ⟨a, c, rfl, R8, b8⟩

end Go.Proofs.YtpgiibpalmhhlaaGreatDoor

namespace Go.Proofs.YtpgiibpalmhhlaaGreatDoor
open Go.RowKit
open Go.Lib hiding intOf
set_option linter.unusedVariables false
set_option linter.unusedSimpArgs false

set_option maxRecDepth 20000 in
set_option maxHeartbeats 4000000 in
theorem link_ok (ad : Option Addr) (cap n m : Nat) (nx : Int) (s tt : List UInt8) (w : World) (ny : Int) (L M : List Rw) (r q : Rw) (F : Bool) (hs : s ≠ []) (hrk : r.kind = 1) (hqk : q.kind ≠ 4)
    (KA : Hid (∀ W, Below w.heap.size w W → Calls Tryz.prog 39 #[.agg #[.slice ad n cap, .int .i64 nx], .string (bs tt)] W fun e w' => e = .returned (.tuple #[.agg #[.string (bs r.p), .int .i64 r.id, .int .i64 r.kind, .int .i64 r.mode, .int .i64 0, .int .i64 0, .int .i64 0, .string ⟨#[]⟩, .string ⟨#[]⟩, .string ⟨#[]⟩, .slice none 0 0, .int .i64 r.size, .bool r.made], .bool true]) ∧ Below W.heap.size W w'))
    (KB : Hid (∀ W, Below w.heap.size w W → Calls Tryz.prog 39 #[.agg #[.slice ad n cap, .int .i64 nx], .string (bs s)] W fun e w' => e = .returned (.tuple #[.agg #[.string (bs q.p), .int .i64 q.id, .int .i64 q.kind, .int .i64 q.mode, .int .i64 0, .int .i64 0, .int .i64 0, .string ⟨#[]⟩, .string ⟨#[]⟩, .string ⟨#[]⟩, .slice none 0 0, .int .i64 q.size, .bool q.made], .bool F]) ∧ Below W.heap.size W w'))
    (KP : Hid (∀ W, Below w.heap.size w W → Calls Tryz.prog 43 #[.agg #[.slice ad n cap, .int .i64 nx], .string (bs s)] W fun e w' => ∃ ad2 c2, e = .returned (.tuple #[.agg #[.slice ad2 m c2, .int .i64 ny], .int .i64 0]) ∧ Rs w' ad2 L ∧ m ≤ c2 ∧ (ad2 = none → c2 = 0) ∧ Below W.heap.size W w' ∧ (∀ g, w.heap.size ≤ g → g < W.heap.size → ∀ b o, ad2 = some ⟨b, o, none⟩ → b ≠ g)))
    (KL : Hid (∀ W ad2 c2, Rs W ad2 L → m ≤ c2 → (ad2 = none → c2 = 0) → Calls Tryz.prog 48 #[.agg #[.slice ad2 m c2, .int .i64 ny], .agg #[.string (bs s), .int .i64 r.id, .int .i64 r.kind, .int .i64 r.mode, .int .i64 0, .int .i64 0, .int .i64 0, .string ⟨#[]⟩, .string ⟨#[]⟩, .string ⟨#[]⟩, .slice none 0 0, .int .i64 r.size, .bool r.made]] W fun e w' => ∃ gd c, e = .returned (.agg #[.slice (some ⟨gd, 0, none⟩) M.length c, .int .i64 ny]) ∧ Rs w' (some ⟨gd, 0, none⟩) M ∧ W.heap.size ≤ gd ∧ M.length ≤ c ∧ Below W.heap.size W w')) :
    Calls Tryz.prog 25 #[.agg #[.slice ad n cap, .int .i64 nx], .string (bs s), .string (bs tt)] w fun e w' => ∃ gd c, e = .returned (.tuple #[.agg #[.slice (some ⟨gd, 0, none⟩) M.length c, .int .i64 ny], .int .i64 0]) ∧ Rs w' (some ⟨gd, 0, none⟩) M ∧ w.heap.size ≤ gd ∧ M.length ≤ c ∧ Below w.heap.size w w' := by
  have k1 : (r.kind != 1) = false := by simp [hrk]
  have k2 : (r.kind == 1) = true := by simp [hrk]
  clear hrk
  have KD : Hid (∀ W, Calls Tryz.prog 42 #[.agg #[.string (bs q.p), .int .i64 q.id, .int .i64 q.kind, .int .i64 q.mode, .int .i64 0, .int .i64 0, .int .i64 0, .string ⟨#[]⟩, .string ⟨#[]⟩, .string ⟨#[]⟩, .slice none 0 0, .int .i64 q.size, .bool q.made]] W fun e w' => e = .returned (.bool false) ∧ Below W.heap.size W w') := fun W => by
    have := isDir_w q W
    rwa [decide_eq_false hqk] at this
  clear hqk
  have H0 := Two.mk0 w #[.slice ad n cap, .int .i64 nx] #[.slice none 0 0, .int .i64 0] 26 26
  have ht := bs_toList s
  have hE : s.isEmpty = false := by simpa using hs
  go_enter Tryz.func25, Tryz.ntmps25
  go_upto_region 4 with (first
    | (go_at_call 39; refine (KA.out _ H0.2.2.1).mono ?_; rintro e w2 ⟨rfl, b2⟩; have H2 : Hid (Two w w2 _ _ _ _) := H0.next b2; clear b2)
    | (refine wpList_store_row rfl 43 _ _ rfl w2.heap.size #[.string (bs r.p), .int .i64 r.id, .int .i64 r.kind, .int .i64 r.mode, .int .i64 0, .int .i64 0, .int .i64 0, .string ⟨#[]⟩, .string ⟨#[]⟩, .string ⟨#[]⟩, .slice none 0 0, .int .i64 r.size, .bool r.made] rfl rfl 43 _ (heap_alloc_new w2 _) (by kernel_rfl) rfl (by simp [Value.oneCell']) ?_))
  have b3 : Below w2.heap.size w2 ((w2.alloc (.cells #[.string ⟨#[]⟩, .int .i64 0, .int .i64 0, .int .i64 0, .int .i64 0, .int .i64 0, .int .i64 0, .string ⟨#[]⟩, .string ⟨#[]⟩, .string ⟨#[]⟩, .slice none 0 0, .int .i64 0, .bool false] 43)).setRow w2.heap.size #[.string (bs r.p), .int .i64 r.id, .int .i64 r.kind, .int .i64 r.mode, .int .i64 0, .int .i64 0, .int .i64 0, .string ⟨#[]⟩, .string ⟨#[]⟩, .string ⟨#[]⟩, .slice none 0 0, .int .i64 r.size, .bool r.made]) := below_setRow (below_box w2 _) (Nat.le_refl _) _
  have r3 := setRow_heap (w2.alloc (.cells #[.string ⟨#[]⟩, .int .i64 0, .int .i64 0, .int .i64 0, .int .i64 0, .int .i64 0, .int .i64 0, .string ⟨#[]⟩, .string ⟨#[]⟩, .string ⟨#[]⟩, .slice none 0 0, .int .i64 0, .bool false] 43)) w2.heap.size _ #[.string (bs r.p), .int .i64 r.id, .int .i64 r.kind, .int .i64 r.mode, .int .i64 0, .int .i64 0, .int .i64 0, .string ⟨#[]⟩, .string ⟨#[]⟩, .string ⟨#[]⟩, .slice none 0 0, .int .i64 r.size, .bool r.made] _ _ (heap_alloc_new w2 _)
  have l3 : w2.heap.size + 1 ≤ ((w2.alloc (.cells #[.string ⟨#[]⟩, .int .i64 0, .int .i64 0, .int .i64 0, .int .i64 0, .int .i64 0, .int .i64 0, .string ⟨#[]⟩, .string ⟨#[]⟩, .string ⟨#[]⟩, .slice none 0 0, .int .i64 0, .bool false] 43)).setRow w2.heap.size #[.string (bs r.p), .int .i64 r.id, .int .i64 r.kind, .int .i64 r.mode, .int .i64 0, .int .i64 0, .int .i64 0, .string ⟨#[]⟩, .string ⟨#[]⟩, .string ⟨#[]⟩, .slice none 0 0, .int .i64 r.size, .bool r.made]).heap.size := by rw [setRow_size, size_box]; exact Nat.le_refl _
  generalize (w2.alloc _).setRow _ _ = w3 at *
  have H3 : Hid (Two w w3 _ _ _ _) := H2.out.next b3
  have X2 : Hid (w.heap.size + 2 ≤ w2.heap.size) := H2.out.2.2.2
  clear H2 b3 H0
  have c3 := cells_of H3.out.1
  go_upto_region 7 with (first
    | (go_at_call 39; refine (KB.out _ H3.out.2.2.1).mono ?_; rintro e w4 ⟨rfl, b4⟩; have H4 : Hid (Two w w4 _ _ _ _) := H3.out.next b4; have r4 : Hid (w4.heap[w2.heap.size]? = _) := (b4.block _ (by omega)).trans r3; have l4 : w2.heap.size + 1 ≤ w4.heap.size := Nat.le_trans l3 b4.size; clear b4)
    | (refine wpList_store_row rfl 43 _ _ rfl w4.heap.size #[.string (bs q.p), .int .i64 q.id, .int .i64 q.kind, .int .i64 q.mode, .int .i64 0, .int .i64 0, .int .i64 0, .string ⟨#[]⟩, .string ⟨#[]⟩, .string ⟨#[]⟩, .slice none 0 0, .int .i64 q.size, .bool q.made] rfl rfl 43 _ (heap_alloc_new w4 _) (by kernel_rfl) rfl (by simp [Value.oneCell']) ?_))
  have b5 : Below w4.heap.size w4 ((w4.alloc (.cells #[.string ⟨#[]⟩, .int .i64 0, .int .i64 0, .int .i64 0, .int .i64 0, .int .i64 0, .int .i64 0, .string ⟨#[]⟩, .string ⟨#[]⟩, .string ⟨#[]⟩, .slice none 0 0, .int .i64 0, .bool false] 43)).setRow w4.heap.size #[.string (bs q.p), .int .i64 q.id, .int .i64 q.kind, .int .i64 q.mode, .int .i64 0, .int .i64 0, .int .i64 0, .string ⟨#[]⟩, .string ⟨#[]⟩, .string ⟨#[]⟩, .slice none 0 0, .int .i64 q.size, .bool q.made]) := below_setRow (below_box w4 _) (Nat.le_refl _) _
  have q5 := setRow_heap (w4.alloc (.cells #[.string ⟨#[]⟩, .int .i64 0, .int .i64 0, .int .i64 0, .int .i64 0, .int .i64 0, .int .i64 0, .string ⟨#[]⟩, .string ⟨#[]⟩, .string ⟨#[]⟩, .slice none 0 0, .int .i64 0, .bool false] 43)) w4.heap.size _ #[.string (bs q.p), .int .i64 q.id, .int .i64 q.kind, .int .i64 q.mode, .int .i64 0, .int .i64 0, .int .i64 0, .string ⟨#[]⟩, .string ⟨#[]⟩, .string ⟨#[]⟩, .slice none 0 0, .int .i64 q.size, .bool q.made] _ _ (heap_alloc_new w4 _)
  have l5 : w4.heap.size + 1 ≤ ((w4.alloc (.cells #[.string ⟨#[]⟩, .int .i64 0, .int .i64 0, .int .i64 0, .int .i64 0, .int .i64 0, .int .i64 0, .string ⟨#[]⟩, .string ⟨#[]⟩, .string ⟨#[]⟩, .slice none 0 0, .int .i64 0, .bool false] 43)).setRow w4.heap.size #[.string (bs q.p), .int .i64 q.id, .int .i64 q.kind, .int .i64 q.mode, .int .i64 0, .int .i64 0, .int .i64 0, .string ⟨#[]⟩, .string ⟨#[]⟩, .string ⟨#[]⟩, .slice none 0 0, .int .i64 q.size, .bool q.made]).heap.size := by rw [setRow_size, size_box]; exact Nat.le_refl _
  generalize (w4.alloc _).setRow _ _ = w5 at *
  have H5 : Hid (Two w w5 _ _ _ _) := H4.out.next b5
  have r5 : w5.heap[w2.heap.size]? = _ := (b5.block _ (by omega)).trans r4.out
  have c5 := cells_of r5
  have c6 := cells_of q5
  clear c3 H3 H4 r4 b5 r3
  go_upto_region 9 with (go_at_call 42; refine (KD.out _).mono ?_; rintro e w6 ⟨rfl, b6⟩; have H6 : Hid (Two w w6 _ _ _ _) := H5.out.next b6; have r6 : Hid (w6.heap[w2.heap.size]? = _) := (b6.block _ (by omega)).trans r5; have l6 : w2.heap.size + 1 ≤ w6.heap.size := Nat.le_trans (by omega) b6.size)
  clear c5 c6 q5 r5 H5 b6
  have c9 := cells_of H6.out.1
  go_upto_region 12 with (first
    | (go_at_call 43; refine (KP.out _ H6.out.2.2.1).mono ?_; rintro e w8 ⟨ad2, c2, rfl, R8, C8, N8, b8, F8⟩; have H8 : Hid (Two w w8 _ _ _ _) := H6.out.next b8; have r8 : Hid (w8.heap[w2.heap.size]? = _) := (b8.block _ (by omega)).trans r6.out; have l8 : w2.heap.size + 1 ≤ w8.heap.size := Nat.le_trans (by omega) b8.size; have F9 : Hid (∀ b o, ad2 = some ⟨b, o, none⟩ → b ≠ w2.heap.size) := F8 _ (by have := X2.out; omega) (by omega); clear b8 F8))
  have b9 : Below w8.heap.size w8 (w8.alloc (.cells #[.slice ad2 m c2, .int .i64 ny] 26)) := below_box w8 _
  have q9 := heap_alloc_new w8 (.cells #[.slice ad2 m c2, .int .i64 ny] 26)
  generalize w8.alloc _ = w9 at *
  have H9 : Hid (Two w w9 _ _ _ _) := H8.out.next b9
  have R9 : Hid (Rs w9 ad2 L) := R8.below b9
  have R11 : ∀ v, Rs (w9.setCell ⟨w2.heap.size, 0, none⟩ v) ad2 L := fun v => R9.out.setFar F9.out v
  have r9 : w9.heap[w2.heap.size]? = _ := (b9.block _ (by omega)).trans r8.out
  have c10 := cells_of r9
  have f10 := froz_of r9
  clear c9 H6 r6 H8 r8 b9
  go_upto_region 13 with fail
  have q10 : (w9.setCell ⟨w2.heap.size, 0, none⟩ (.string (bs s))).heap[w2.heap.size]? = some (.cells #[.string (bs s), .int .i64 r.id, .int .i64 r.kind, .int .i64 r.mode, .int .i64 0, .int .i64 0, .int .i64 0, .string ⟨#[]⟩, .string ⟨#[]⟩, .string ⟨#[]⟩, .slice none 0 0, .int .i64 r.size, .bool r.made] 43 (0, 0)) := by
    rw [setCell_eq_setRow w9 w2.heap.size 0 _ 43 (0, 0) _ r9]
    exact setRow_heap _ _ _ _ _ _ r9
  have b10 : Below (w.heap.size + 2) w9 (w9.setCell ⟨w2.heap.size, 0, none⟩ (.string (bs s))) := (Below.refl _ _).setCell (by show w.heap.size + 2 ≤ w2.heap.size; exact X2.out) _
  have H10 : Hid (Two w (w9.setCell ⟨w2.heap.size, 0, none⟩ (.string (bs s))) _ _ _ _) := H9.out.nextB b10
  have c11 : ∀ j, (w9.setCell ⟨w2.heap.size, 0, none⟩ (.string (bs s))).cell? ⟨w8.heap.size, j, none⟩ = (#[.slice ad2 m c2, .int .i64 ny] : Array Value)[j]? := fun j => by
    rw [World.cell?_setCell_far _ _ _ _ (by show w2.heap.size ≠ w8.heap.size; omega)]
    exact cells_of q9 j
  have R10 : Hid (Rs (w9.setCell ⟨w2.heap.size, 0, none⟩ (.string (bs s))) ad2 L) := R11 _
  generalize w9.setCell _ _ = w10 at *
  have c12 := cells_of q10
  clear c10 f10 r9 q9 R9 H9 b10
  go_wp2_with (go_at_call 48; refine (KL.out _ ad2 c2 R10.out C8 N8).mono ?_; rintro e w11 ⟨gd, c, rfl, R12, G12, C12, b12⟩; have H12 : Hid (Two w w11 _ _ _ _) := H10.out.next b12; have d3 := cells_of H12.out.2.1; have g3 := froz_of H12.out.2.1)
  have lt10 := H10.out.2.2.2
  have e2 := two_set H12.out.2.1 (.slice (some ⟨gd, 0, none⟩) M.length c) (.int .i64 ny)
  have R13 := R12.far (gd := gd) rfl (w.heap.size + 1) (by omega) (.slice (some ⟨gd, 0, none⟩) M.length c) (.int .i64 ny)
  have b13 : Below w.heap.size w ((w11.setCell ⟨w.heap.size + 1, 0, none⟩ (.slice (some ⟨gd, 0, none⟩) M.length c)).setCell ⟨w.heap.size + 1, 1, none⟩ (.int .i64 ny)) := (H12.out.2.2.1.setCell (by show _ ≤ w.heap.size + 1; omega) _).setCell (by show _ ≤ w.heap.size + 1; omega) _
  have hld := run_loadVar_row _ _ _ 26 _ _ _ e2 Tryz.underlying26 rfl (by kernel_rfl)
  exact bodyPost_ret (by rw [results_cell_tmp rfl]; simp [asAddr, hld]) rfl ⟨gd, c, rfl, R13, by omega, C12, b13⟩

end Go.Proofs.YtpgiibpalmhhlaaGreatDoor

namespace Go.Proofs.YtpgiibpalmhhlaaGreatDoor
open Go.RowKit
open Go.Lib hiding intOf
set_option linter.unusedVariables false
set_option linter.unusedSimpArgs false

theorem link_w (v : Value) (nx : Int) (L : List Rw) (s tt : List UInt8) (w : World) (hS : Sd L nx) (hv : Tm w v L nx) (hl : L.length ≤ 900000) (hnx : nx ≤ 900000000000) (hsl : s.length ≤ 1000) (htl : tt.length ≤ 1000000) (hsc : s = [] ∨ Cp s) :
    Calls Tryz.prog 25 #[v, .string (bs s), .string (bs tt)] w fun e w' => ∃ v', e = .returned (.tuple #[v', .int .i64 (linkP L nx s tt).2.2]) ∧ Tm w' v' (linkP L nx s tt).1 (linkP L nx s tt).2.1 ∧ Below w.heap.size w w' := by
  obtain ⟨ad, cap, rfl, hr, hcap, hnil⟩ := hv
  have hnn := hS.nn
  have hp : ∀ r ∈ L, r.p.length ≤ 4611686018427387903 := fun r hr => by have := (hS.ok r hr).1; omega
  have hml := md_length L (s := s)
  have KS : ∀ W, Below w.heap.size w W → Calls Tryz.prog 41 #[.agg #[.slice ad L.length cap, .int .i64 nx]] W fun e w' => ∃ a c, e = .returned (.agg #[.slice a L.length c, .int .i64 nx]) ∧ Xs L a c W w' ∧ Below W.heap.size W w' := fun W hb => same_w ad cap nx L W (hr.below hb) (by omega)
  have KA : ∀ W, Below w.heap.size w W → Calls Tryz.prog 39 #[.agg #[.slice ad L.length cap, .int .i64 nx], .string (bs tt)] W fun e w' => e = .returned (.tuple #[.agg (atR L tt).cs.toArray, .bool (fd L tt)]) ∧ Below W.heap.size W w' := fun W hb => at_w ad cap nx L tt W hS.srt (hr.below hb) (by omega) hp (by omega)
  have KB : ∀ W, Below w.heap.size w W → Calls Tryz.prog 39 #[.agg #[.slice ad L.length cap, .int .i64 nx], .string (bs s)] W fun e w' => e = .returned (.tuple #[.agg (atR L s).cs.toArray, .bool (fd L s)]) ∧ Below W.heap.size W w' := fun W hb => at_w ad cap nx L s W hS.srt (hr.below hb) (by omega) hp (by omega)
  unfold linkP
  by_cases e0 : s = []
  · rw [if_pos e0]
    subst e0
    refine (link_root ad cap L.length L.length nx tt w (Xs L) (fun a c W W' x y h hk => h.far a c W W' x y hk) KS).mono ?_
    rintro e w' ⟨a, c, rfl, hx, hb⟩
    exact ⟨_, rfl, hx.tm, hb⟩
  · have hc : Cp s := hsc.resolve_left e0
    rw [if_neg e0]
    by_cases hf : fd L tt = false
    · rw [if_pos hf]
      have ha : atR L tt = zr := by unfold atR; rw [hf]; rfl
      rw [ha, hf] at KA
      refine (link_miss ad cap L.length L.length nx s tt w (Xs L) (fun a c W W' x y h hk => h.far a c W W' x y hk) e0 KA KS).mono ?_
      rintro e w' ⟨a, c, rfl, hx, hb⟩
      exact ⟨_, rfl, hx.tm, hb⟩
    · rw [if_neg hf]
      have hf : fd L tt = true := by simpa using hf
      rw [hf] at KA
      obtain ⟨hm, hpt⟩ := atR_mem hf
      by_cases c1 : (atR L tt).kind ≠ 1
      · rw [if_pos c1]
        refine (link_cl1 ad cap L.length L.length nx s tt w (Xs L) (fun a c W W' x y h hk => h.far a c W W' x y hk) (atR L tt) (atR L s) (fd L s) e0 c1 KA KB KS).mono ?_
        rintro e w' ⟨a, c, rfl, hx, hb⟩
        exact ⟨_, rfl, hx.tm, hb⟩
      · rw [if_neg c1]
        have c1 : (atR L tt).kind = 1 := Classical.not_not.1 c1
        by_cases c2 : (atR L s).kind = 4
        · rw [if_pos c2]
          refine (link_cl2 ad cap L.length L.length nx s tt w (Xs L) (fun a c W W' x y h hk => h.far a c W W' x y hk) (atR L tt) (atR L s) (fd L s) e0 c1 c2 KA KB KS).mono ?_
          rintro e w' ⟨a, c, rfl, hx, hb⟩
          exact ⟨_, rfl, hx.tm, hb⟩
        · rw [if_neg c2]
          by_cases hcl : cls L s = true
          · rw [if_pos hcl]
            refine (link_par ad cap L.length L.length nx s tt w (Xs L) (fun a c W W' x y h hk => h.far a c W W' x y hk) (atR L tt) (atR L s) (fd L s) e0 c1 c2 KA KB (fun W hb => wp_clash ad cap nx L s W hS.srt (hr.below hb) (by omega) hp e0 hsl hcl) KS).mono ?_
            rintro e w' ⟨a, c, rfl, hx, hb⟩
            exact ⟨_, rfl, hx.tm, hb⟩
          · have hcl : cls L s = false := by simpa using hcl
            rw [hcl, if_neg (by simp)]
            obtain ⟨hw, hu⟩ := hS.wp hc hsl hcl
            have hp2 : ∀ r ∈ wpR L nx s, r.p.length ≤ 4611686018427387903 := fun r hr => by have := (hw.ok r hr).1; omega
            have hl2 : (wpR L nx s).length ≤ 1000000 := by rw [wpR_length]; omega
            have hb0 : ∀ b o, ad = some ⟨b, o, none⟩ → b < w.heap.size := by
              intro b o e
              rcases hr with h | ⟨b', o', e', hb', _⟩
              · rw [h] at hm; cases hm
              · rw [e] at e'; injection e' with e'; injection e' with e1; omega
            refine (link_ok ad cap L.length (wpR L nx s).length nx s tt w (nx + ((mdL L s).length : Int)) (wpR L nx s) (putL (wpR L nx s) { atR L tt with p := s }) (atR L tt) (atR L s) (fd L s) e0 c1 c2 KA KB (fun W hb => ?_) (fun W ad2 c2 h1 h2 h3 => lay_w ad2 c2 (nx + ((mdL L s).length : Int)) (wpR L nx s) { atR L tt with p := s } W hw.srt h1 hl2 h2 h3 hp2 (by show s.length ≤ _; omega))).mono ?_
            · refine (wp_made' ad cap nx L s W hS.srt (hr.below hb) (by omega) hcap hnil hp e0 hsl ⟨hnn, by omega⟩ hcl).mono ?_
              rintro e w' ⟨a, c, h1, h2, h3, h4, h5, h6⟩
              exact ⟨a, c, h1, h2, h3, h4, h5, fun g k1 k2 => h6 g (fun b o e => by have := hb0 b o e; omega) k2⟩
            · rintro e w' ⟨gd, c, rfl, h1, h2, h3, h4⟩
              exact ⟨_, rfl, ⟨_, c, rfl, h1, h3, fun h => by cases h⟩, h4⟩

end Go.Proofs.YtpgiibpalmhhlaaGreatDoor

