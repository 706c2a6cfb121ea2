/-
  Contracts: Add of a directory where something else stands.
-/
import Derived.Test.YtojnniacmmcddaaDoorW1
import Derived.Test.YtojnniacmmcddaaDoorW3
namespace Go.Proofs.YtojnniacmmcddaaDoor
open Go.RowKit
open Go.Lib hiding intOf
set_option linter.unusedVariables false
set_option linter.unusedSimpArgs false

set_option maxRecDepth 20000 in
set_option maxHeartbeats 4000000 in
theorem add_otherThere (ad : Option Addr) (cap n m : Nat) (nx : Int) (s : List UInt8) (kd md sz : Int) (mk : Bool) (w : World) (X : Option Addr → Nat → World → World → Prop) (hX : ∀ a c W W' x y, X a c W W' → w.heap.size + 2 < W.heap.size → X a c w ((W'.setCell ⟨w.heap.size + 2, 0, none⟩ x).setCell ⟨w.heap.size + 2, 1, none⟩ y)) (r : Rw) (hrk : r.kind ≠ 4) (hkd : kd = 4) (hs : s ≠ [])
    (KA : Hid (∀ W, Below w.heap.size w W → Calls Tryd.prog 28 #[.agg #[.slice ad n cap, .int .i64 nx], .string (bs s)] W fun e w' => e = .returned (.tuple #[.agg #[.string (bs r.p), .int .i64 r.id, .int .i64 r.kind, .int .i64 r.mode, .int .i64 0, .int .i64 0, .int .i64 0, .string ⟨#[]⟩, .string ⟨#[]⟩, .string ⟨#[]⟩, .slice none 0 0, .int .i64 r.size, .bool r.made], .bool true]) ∧ Below W.heap.size W w'))
    (KT : Hid (∀ W, Below w.heap.size w W → Calls Tryd.prog 27 #[.agg #[.slice ad n cap, .int .i64 nx]] W fun e w' => ∃ a c, e = .returned (.agg #[.slice a m c, .int .i64 nx]) ∧ X a c W w' ∧ Below W.heap.size W w')) :
    Calls Tryd.prog 10 #[.agg #[.slice ad n cap, .int .i64 nx], .string (bs s), .agg #[.int .i64 kd, .int .i64 md, .int .i64 0, .int .i64 0, .int .i64 0, .string ⟨#[]⟩, .string ⟨#[]⟩, .string ⟨#[]⟩, .slice none 0 0, .int .i64 sz, .bool mk]] w fun e w' => ∃ a c, e = .returned (.tuple #[.agg #[.slice a m c, .int .i64 nx], .int .i64 130]) ∧ X a c w w' ∧ Below w.heap.size w w' := by
  have KD : Hid (∀ W, Calls Tryd.prog 29 #[.agg #[.string (bs r.p), .int .i64 r.id, .int .i64 r.kind, .int .i64 r.mode, .int .i64 0, .int .i64 0, .int .i64 0, .string ⟨#[]⟩, .string ⟨#[]⟩, .string ⟨#[]⟩, .slice none 0 0, .int .i64 r.size, .bool r.made]] W fun e w' => e = .returned (.bool false) ∧ Below W.heap.size W w') := fun W => by
    have := isDir_w r W
    rwa [decide_eq_false hrk] at this
  clear hrk
  subst hkd
  have H0 := A3.mk0 w #[.slice ad n cap, .int .i64 nx] #[.int .i64 4, .int .i64 md, .int .i64 0, .int .i64 0, .int .i64 0, .string ⟨#[]⟩, .string ⟨#[]⟩, .string ⟨#[]⟩, .slice none 0 0, .int .i64 sz, .bool mk] #[.slice none 0 0, .int .i64 0]
  have ht := bs_toList s
  have hE : s.isEmpty = false := by simpa using hs
  go_enter Tryd.func10, Tryd.ntmps10
  go_upto_region 4 with (first
    | (go_at_call 28; refine (KA.out _ H0.bel).mono ?_; rintro e w2 ⟨rfl, b2⟩; have H2 : Hid (A3 w w2 _ _ _) := H0.next b2; clear b2)
    | (refine wpList_store_row rfl 40 _ _ rfl w2.heap.size #[.string (bs r.p), .int .i64 r.id, .int .i64 r.kind, .int .i64 r.mode, .int .i64 0, .int .i64 0, .int .i64 0, .string ⟨#[]⟩, .string ⟨#[]⟩, .string ⟨#[]⟩, .slice none 0 0, .int .i64 r.size, .bool r.made] rfl rfl 40 _ (heap_alloc_new w2 _) (by kernel_rfl) rfl (by simp [Value.oneCell']) ?_))
  have b3 : Below w2.heap.size w2 ((w2.alloc (.cells #[.string ⟨#[]⟩, .int .i64 0, .int .i64 0, .int .i64 0, .int .i64 0, .int .i64 0, .int .i64 0, .string ⟨#[]⟩, .string ⟨#[]⟩, .string ⟨#[]⟩, .slice none 0 0, .int .i64 0, .bool false] 40)).setRow w2.heap.size #[.string (bs r.p), .int .i64 r.id, .int .i64 r.kind, .int .i64 r.mode, .int .i64 0, .int .i64 0, .int .i64 0, .string ⟨#[]⟩, .string ⟨#[]⟩, .string ⟨#[]⟩, .slice none 0 0, .int .i64 r.size, .bool r.made]) := below_setRow (below_box w2 _) (Nat.le_refl _) _
  have r3 := setRow_heap (w2.alloc (.cells #[.string ⟨#[]⟩, .int .i64 0, .int .i64 0, .int .i64 0, .int .i64 0, .int .i64 0, .int .i64 0, .string ⟨#[]⟩, .string ⟨#[]⟩, .string ⟨#[]⟩, .slice none 0 0, .int .i64 0, .bool false] 40)) w2.heap.size _ #[.string (bs r.p), .int .i64 r.id, .int .i64 r.kind, .int .i64 r.mode, .int .i64 0, .int .i64 0, .int .i64 0, .string ⟨#[]⟩, .string ⟨#[]⟩, .string ⟨#[]⟩, .slice none 0 0, .int .i64 r.size, .bool r.made] _ _ (heap_alloc_new w2 _)
  have l3 : w2.heap.size + 1 ≤ ((w2.alloc (.cells #[.string ⟨#[]⟩, .int .i64 0, .int .i64 0, .int .i64 0, .int .i64 0, .int .i64 0, .int .i64 0, .string ⟨#[]⟩, .string ⟨#[]⟩, .string ⟨#[]⟩, .slice none 0 0, .int .i64 0, .bool false] 40)).setRow w2.heap.size #[.string (bs r.p), .int .i64 r.id, .int .i64 r.kind, .int .i64 r.mode, .int .i64 0, .int .i64 0, .int .i64 0, .string ⟨#[]⟩, .string ⟨#[]⟩, .string ⟨#[]⟩, .slice none 0 0, .int .i64 r.size, .bool r.made]).heap.size := by rw [setRow_size, size_box]; exact Nat.le_refl _
  generalize (w2.alloc _).setRow _ _ = w3 at *
  have H3 := (H2.out.next b3).drew
  have r3' : w3.drew.heap[w2.heap.size]? = _ := r3
  have l3' : w2.heap.size + 1 ≤ w3.drew.heap.size := l3
  clear b3 r3 l3
  have h3 : (∀ k, w3.drew.cell? ⟨w2.heap.size, k, none⟩ = (#[.string (bs r.p), .int .i64 r.id, .int .i64 r.kind, .int .i64 r.mode, .int .i64 0, .int .i64 0, .int .i64 0, .string ⟨#[]⟩, .string ⟨#[]⟩, .string ⟨#[]⟩, .slice none 0 0, .int .i64 r.size, .bool r.made] : Array Value)[k]?) ∧ w3.drew.cell? ⟨w.heap.size + 1, 0, none⟩ = some (.int .i64 4) := ⟨cells_of r3', cells_of H3.nod 0⟩
  go_region_held3 (fun W => (∀ k, W.cell? ⟨w2.heap.size, k, none⟩ = (#[.string (bs r.p), .int .i64 r.id, .int .i64 r.kind, .int .i64 r.mode, .int .i64 0, .int .i64 0, .int .i64 0, .string ⟨#[]⟩, .string ⟨#[]⟩, .string ⟨#[]⟩, .slice none 0 0, .int .i64 r.size, .bool r.made] : Array Value)[k]?) ∧ W.cell? ⟨w.heap.size + 1, 0, none⟩ = some (.int .i64 4)) (first | assumption | exact h3) (
    (go_at_call 29; refine (KD.out _).mono ?_; rintro e wD ⟨rfl, bD⟩; have HD : A3 w wD _ _ _ := H3.next bD; have rD : wD.heap[w2.heap.size]? = _ := (bD.block _ (by omega)).trans r3'; have lD : w2.heap.size + 1 ≤ wD.heap.size := Nat.le_trans l3' bD.size; have hD : (∀ k, wD.cell? ⟨w2.heap.size, k, none⟩ = (#[.string (bs r.p), .int .i64 r.id, .int .i64 r.kind, .int .i64 r.mode, .int .i64 0, .int .i64 0, .int .i64 0, .string ⟨#[]⟩, .string ⟨#[]⟩, .string ⟨#[]⟩, .slice none 0 0, .int .i64 r.size, .bool r.made] : Array Value)[k]?) ∧ wD.cell? ⟨w.heap.size + 1, 0, none⟩ = some (.int .i64 4) := ⟨cells_of rD, cells_of HD.nod 0⟩))
  have c3 := cells_of HD.tre
  clear h3 hD
  go_wp2_with (go_at_call 27; refine (KT.out _ HD.bel).mono ?_; rintro e w7 ⟨a, c, rfl, R7, b7⟩; have H7 : Hid (A3 w w7 _ _ _) := A3.next HD b7; have d3 := cells_of H7.out.res; have g3 := froz_of H7.out.res)
  have lt5 := HD.lt
  have e2 := two_set H7.out.res (.slice a m c) (.int .i64 nx)
  have R8 := hX _ _ _ _ (.slice a m c) (.int .i64 nx) R7 (by omega)
  have b8 : Below w.heap.size w ((w7.setCell ⟨w.heap.size + 2, 0, none⟩ (.slice a m c)).setCell ⟨w.heap.size + 2, 1, none⟩ (.int .i64 nx)) := (H7.out.bel.setCell (by show _ ≤ w.heap.size + 2; omega) _).setCell (by show _ ≤ w.heap.size + 2; omega) _
  have hld := run_loadVar_row _ _ _ 26 _ _ _ e2 Tryd.underlying26 rfl (by kernel_rfl)
  exact bodyPost_ret (by rw [results_cell_tmp rfl]; simp [asAddr, hld]) rfl ⟨a, c, rfl, R8, b8⟩

end Go.Proofs.YtojnniacmmcddaaDoor
