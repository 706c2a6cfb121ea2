/-
  The document's Decode: what it keeps, and a line that is too long.
-/
import Derived.Test.YtojbfdlgjjghjaaDoorKKy
namespace Go.Proofs.YtojbfdlgjjghjaaDoor.K
open Go.RowKit
open Go.Lib hiding intOf
set_option linter.unusedVariables false
set_option linter.unusedSimpArgs false

/-- the document's Ask, with its bytes as a text -/
def Ak.rc (a : Ak) (ds : List UInt8) : Array Value := #[.int .i64 a.k, .int .i64 a.t, .int .i64 a.n, .int .i64 a.c, .string a.p, .string ⟨ds.toArray⟩]
def Rx (w : World) (g : Nat) (C : Array Value) : Prop := w.heap[g]? = some (.cells C 30 (0, 0))
theorem Rx.lt {w : World} {g : Nat} {C : Array Value} (h : Rx w g C) : g < w.heap.size := (Array.getElem?_eq_some_iff.1 h).1
theorem Rx.below {w W : World} {g : Nat} {C : Array Value} (h : Rx w g C) {B : Nat} (b : Below B w W) (hg : g < B) : Rx W g C := (b.block g hg).trans h
theorem Rx.cell {w : World} {g : Nat} {C : Array Value} (h : Rx w g C) (i : Nat) : w.cell? ⟨g, i, none⟩ = C[i]? := cell_of_row h i
theorem sizeR (a : Ak) (ds : List UInt8) : (Tryd.prog.info? 30).map (·.size) = some (a.rc ds).size := by
  have h2 : (Tryd.prog.info? 30).map (·.size) = some 6 := by kernel_rfl
  have h1 : (a.rc ds).size = 6 := by simp [Ak.rc]
  rw [h1, h2]
theorem zeroR (W : World) : (zeroValue 30).run Tryd.prog W = .ok (.agg (Ak.zero.rc [])) W := by
  have b : (Tryd.prog.info? 30).bind (fun i => i.zero) = some (.agg (Ak.zero.rc [])) := by kernel_rfl
  cases hq : Tryd.prog.info? 30 with
  | none => rw [hq] at b; simp at b
  | some i => rw [hq] at b; simp at b; simp [zeroValue, typeInfo, hq, b]
theorem one_rc (a : Ak) (ds : List UInt8) : (a.rc ds).all (·.oneCell') = true := by simp [Ak.rc, Value.oneCell']

/-- the document's Decode on its way: its answer's block is w's next, its Ask lies at g -/
structure Rm (w W : World) (g : Nat) (a : Ak) (ds : List UInt8) : Prop where
  bel : Below w.heap.size w W
  up : w.heap.size < g
  res : Rx W w.heap.size (Ak.zero.rc [])
  box : Rx W g (a.rc ds)
theorem Rm.grow {w W W' : World} {g : Nat} {a : Ak} {ds : List UInt8} (h : Rm w W g a ds) (b : Below W.heap.size W W') : Rm w W' g a ds :=
  ⟨h.bel.trans (b.mono h.bel.size), h.up, h.res.below b h.res.lt, h.box.below b h.box.lt⟩
theorem Rm.set {w W : World} {g : Nat} {a a' : Ak} {ds ds' : List UInt8} (h : Rm w W g a ds) (f : Nat) (v : Value) (e : (a.rc ds).setIfInBounds f v = a'.rc ds') : Rm w (W.setCell ⟨g, f, none⟩ v) g a' ds' := by
  have hb := h.box
  have hu := h.up
  unfold Rx at hb
  have e1 := setCell_eq_setRow W g f _ _ _ v hb
  rw [e1]
  refine ⟨⟨h.bel.os, h.bel.tape, h.bel.output, by rw [setRow_size]; exact h.bel.size, fun k hk => (setRow_other _ _ _ _ (by omega)).trans (h.bel.block k hk)⟩, hu, ?_, ?_⟩
  · unfold Rx
    rw [setRow_other _ _ _ _ (by omega)]
    exact h.res
  · unfold Rx
    rw [← e]
    exact setRow_heap _ _ _ _ _ _ hb
theorem Rm.done {w W : World} {g : Nat} {a : Ak} {ds : List UInt8} (h : Rm w W g a ds) (D : Array Value) : Rx (W.setRow w.heap.size D) w.heap.size D ∧ Below w.heap.size w (W.setRow w.heap.size D) :=
  ⟨setRow_heap _ _ _ _ _ _ h.res, ⟨h.bel.os, h.bel.tape, h.bel.output, by rw [setRow_size]; exact h.bel.size, fun k hk => (setRow_other _ _ _ _ (by omega)).trans (h.bel.block k hk)⟩⟩

set_option maxRecDepth 20000 in
set_option maxHeartbeats 4000000 in
theorem rdecode_long (s : ByteArray) (h : 16384 < s.size) (h2 : s.size ≤ 9223372036854775807) (w : World) :
    Calls Tryd.prog 11 #[.string s] w fun e w' => RefOk e (.inl 2) ∧ Below w.heap.size w w' := by
  have hz := zeroR
  have b1 : Below w.heap.size w (w.alloc (.cells (Ak.zero.rc []) 30)) := (Below.refl _ w).alloc (Nat.le_refl _) _
  have r1 : Rx (w.alloc (.cells (Ak.zero.rc []) 30)) w.heap.size (Ak.zero.rc []) := heap_alloc_new w _
  have r2 : (((w.alloc (.cells (Ak.zero.rc []) 30)).setRow w.heap.size (Ak.zero.rc [])).heap[w.heap.size]? = some (.cells (Ak.zero.rc []) 30 (0, 0))) := setRow_heap _ _ _ _ _ _ r1
  have b2 : Below w.heap.size w ((w.alloc (.cells (Ak.zero.rc []) 30)).setRow w.heap.size (Ak.zero.rc [])) := ⟨b1.os, b1.tape, b1.output, by rw [setRow_size]; exact b1.size, fun k hk => (setRow_other _ _ _ _ (by omega)).trans (b1.block k hk)⟩
  have h3 : (16384 : Int) < s.size := by omega
  have si := sizeR Ak.zero []
  have sk := one_rc Ak.zero []
  unfold Rx at r1
  simp only [Ak.rc, Ak.zero, RefOk] at *
  go_enter Tryd.func11, Tryd.ntmps11
  go_wp2_with (refine wpList_store_row rfl 30 _ _ rfl _ _ rfl rfl 30 _ r1 si rfl sk ?_)
  have hld := run_loadVar_row _ _ _ 30 _ _ _ r2 Tryd.underlying30 rfl si
  exact bodyPost_ret (by rw [results_cell_tmp rfl]; simp [asAddr, hld]) rfl ⟨rfl, b2⟩
end Go.Proofs.YtojbfdlgjjghjaaDoor.K
