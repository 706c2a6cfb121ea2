/-
  extent.Append on its way: the content that came in (a box), the result's variable, the content that goes out (its box, a list of numbers of its own).
-/
import Derived.Test.YtpjfhfbjdcgbjabExtDrop
import Derived.Deep.DeepCutAuto
import Derived.Laws.Rows
namespace Go.Proofs.Ytpjfhfbjdcgbjab
open Go.RowKit
set_option linter.unusedVariables false
set_option linter.unusedSimpArgs false

theorem keeps_below {p S F : Nat} {w w' : World} (h : Below w.heap.size w w') : Keeps p S F w w' := ⟨h.os, h.tape, h.output, h.size, fun k hk _ _ _ => h.block k hk⟩

structure Mid (w W : World) (p S F bx rs g8 : Nat) (cv : Value) (csz : Int) (v : Value) (ids : List Int) (sz : Int) : Prop where
  kp : Keeps p S F w W
  box : W.heap[bx]? = some (.cells #[cv, .int .i64 csz] 35 (0, 0))
  res : ∃ x y, W.heap[rs]? = some (.cells #[x, y] 35 (0, 0))
  out : W.heap[g8]? = some (.cells #[v, .int .i64 sz] 35 (0, 0))
  own : Own W w.heap.size v ids
  hb : w.heap.size ≤ bx
  hr : w.heap.size ≤ rs
  hg : w.heap.size ≤ g8
  br : bx ≠ rs
  bg : bx ≠ g8
  rg : rs ≠ g8

theorem Own.moved {W W' : World} {B : Nat} {v : Value} {ids : List Int} (h : Own W B v ids) (hb : ∀ g, B ≤ g → g < W.heap.size → (∀ t fz cur, W.heap[g]? = some (.cells cur t fz) → t = 3) → W'.heap[g]? = W.heap[g]?) : Own W' B v ids := by
  refine ⟨h.1, ?_⟩
  rcases h.2 with h2 | ⟨g, cap, cur, e1, e2, e3, e4, e5, e6, e7⟩
  · exact .inl h2
  · exact .inr ⟨g, cap, cur, e1, e2, (hb g e2 (lt_of_heap e3) (fun t fz c hc => by rw [e3] at hc; cases hc; rfl)).trans e3, e4, e5, e6, e7⟩

section
variable {w W W' : World} {p S F bx rs g8 : Nat} {cv v : Value} {csz sz : Int} {ids : List Int}

theorem Mid.next (h : Mid w W p S F bx rs g8 cv csz v ids sz) (hp : p < w.heap.size) (hS : S < w.heap.size) (hF : F < w.heap.size) (hk : Keeps p S F W W') : Mid w W' p S F bx rs g8 cv csz v ids sz := by
  have e : ∀ g, w.heap.size ≤ g → g < W.heap.size → W'.heap[g]? = W.heap[g]? := fun g h1 h2 => hk.block g h2 (by omega) (by omega) (by omega)
  obtain ⟨x, y, hxy⟩ := h.res
  exact ⟨h.kp.trans hk, (e _ h.hb (lt_of_heap h.box)).trans h.box, ⟨x, y, (e _ h.hr (lt_of_heap hxy)).trans hxy⟩, (e _ h.hg (lt_of_heap h.out)).trans h.out, h.own.moved fun g h1 h2 _ => e g h1 h2, h.hb, h.hr, h.hg, h.br, h.bg, h.rg⟩

theorem Mid.b0 (h : Mid w W p S F bx rs g8 cv csz v ids sz) : W.cell? ⟨bx, 0, none⟩ = some cv := by simp [World.cell?, h.box]
theorem Mid.b1 (h : Mid w W p S F bx rs g8 cv csz v ids sz) : W.cell? ⟨bx, 1, none⟩ = some (.int .i64 csz) := by simp [World.cell?, h.box]
theorem Mid.o0 (h : Mid w W p S F bx rs g8 cv csz v ids sz) : W.cell? ⟨g8, 0, none⟩ = some v := by simp [World.cell?, h.out]
theorem Mid.o1 (h : Mid w W p S F bx rs g8 cv csz v ids sz) : W.cell? ⟨g8, 1, none⟩ = some (.int .i64 sz) := by simp [World.cell?, h.out]
theorem Mid.fo (h : Mid w W p S F bx rs g8 cv csz v ids sz) (m : Nat) : W.frozen? ⟨g8, m, none⟩ = false := by simp [World.frozen?, h.out]
theorem Mid.fr (h : Mid w W p S F bx rs g8 cv csz v ids sz) (m : Nat) : W.frozen? ⟨rs, m, none⟩ = false := by
  obtain ⟨x, y, hxy⟩ := h.res
  simp [World.frozen?, hxy]
theorem Mid.r0 (h : Mid w W p S F bx rs g8 cv csz v ids sz) : ∃ x, W.cell? ⟨rs, 0, none⟩ = some x := by
  obtain ⟨x, y, hxy⟩ := h.res
  exact ⟨x, by simp [World.cell?, hxy]⟩
theorem Mid.r1 (h : Mid w W p S F bx rs g8 cv csz v ids sz) : ∃ x, W.cell? ⟨rs, 1, none⟩ = some x := by
  obtain ⟨x, y, hxy⟩ := h.res
  exact ⟨y, by simp [World.cell?, hxy]⟩

theorem keeps_new {a : World} (h : Keeps p S F a W) {x : Addr} (hx : a.heap.size ≤ x.block) (u : Value) : Keeps p S F a (W.setCell x u) :=
  ⟨h.os, h.tape, h.output, by have := h.size; simpa [World.setCell] using this, fun k h1 h2 h3 h4 => by rw [Below.heap_setCell _ _ _ _ (by omega)]; exact h.block k h1 h2 h3 h4⟩

theorem Mid.setSize (h : Mid w W p S F bx rs g8 cv csz v ids sz) (z : Int) : Mid w (W.setCell ⟨g8, 1, none⟩ (.int .i64 z)) p S F bx rs g8 cv csz v ids z := by
  obtain ⟨x, y, hxy⟩ := h.res
  refine ⟨keeps_new h.kp h.hg _, ?_, ⟨x, y, ?_⟩, ?_, ?_, h.hb, h.hr, h.hg, h.br, h.bg, h.rg⟩
  · rw [Below.heap_setCell _ _ _ _ h.bg]; exact h.box
  · rw [Below.heap_setCell _ _ _ _ h.rg]; exact hxy
  · rw [setCell_eq_setRow W g8 1 _ _ _ _ h.out, setRow_heap W g8 _ _ _ _ h.out]; simp
  · exact h.own.moved fun g h1 h2 ht => Below.heap_setCell _ _ _ _ (by rintro rfl; have := ht _ _ _ h.out; cases this)

theorem Mid.ownGe (h : Mid w W p S F bx rs g8 cv csz v ids sz) (g : Nat) (e : v.ownBlock = some g) : w.heap.size ≤ g ∧ ∃ cur, W.heap[g]? = some (.cells cur 3 (0, 0)) := by
  rcases h.own.2 with ⟨rfl, _⟩ | ⟨g', cap, cur, e1, e2, e3, _⟩
  · simp [Value.ownBlock] at e
  · rw [e1] at e
    simp [Value.ownBlock] at e
    subst e
    exact ⟨e2, cur, e3⟩

theorem Mid.outAt (h : Mid w W p S F bx rs g8 cv csz v ids sz) (W1 : World) (hg : W.grownBy W1 v.ownBlock) : W1.heap[g8]? = some (.cells #[v, .int .i64 sz] 35 (0, 0)) := by
  rw [hg.block g8 (lt_of_heap h.out) (fun c => by obtain ⟨_, cur, hc⟩ := h.ownGe g8 c.symm; rw [h.out] at hc; cases hc)]
  exact h.out

theorem Mid.lowAtBlock (h : Mid w W p S F bx rs g8 cv csz v ids sz) (W1 : World) (hg : W.grownBy W1 v.ownBlock) (k : Nat) (hk : k < w.heap.size) : W1.heap[k]? = W.heap[k]? :=
  hg.block k (Nat.lt_of_lt_of_le hk h.kp.size) (fun c => by have := (h.ownGe k c.symm).1; omega)

theorem Mid.setIds (h : Mid w W p S F bx rs g8 cv csz v ids sz) (v' : Value) (ids' : List Int) (W1 : World) (hown : Own W1 w.heap.size v' ids') (hg : W.grownBy W1 v.ownBlock) : Mid w (W1.setCell ⟨g8, 0, none⟩ v') p S F bx rs g8 cv csz v' ids' sz := by
  obtain ⟨x, y, hxy⟩ := h.res
  have vb : ∀ g, v.ownBlock = some g → w.heap.size ≤ g ∧ ∃ cur, W.heap[g]? = some (.cells cur 3 (0, 0)) := by
    intro g e
    rcases h.own.2 with ⟨rfl, _⟩ | ⟨g', cap, cur, e1, e2, e3, _⟩
    · simp [Value.ownBlock] at e
    · rw [e1] at e
      simp [Value.ownBlock] at e
      subst e
      exact ⟨e2, cur, e3⟩
  have e : ∀ (g : Nat) (o : Obj), W.heap[g]? = some o → (∀ cur, o ≠ .cells cur 3 (0, 0)) → W1.heap[g]? = some o := fun g o h1 h2 => by
    rw [hg.block g (lt_of_heap h1) (fun c => by obtain ⟨_, cur, hc⟩ := vb g c.symm; rw [h1] at hc; cases hc; exact h2 cur rfl)]; exact h1
  have k1 : Keeps p S F w W1 := ⟨hg.os.trans h.kp.os, hg.tape.trans h.kp.tape, hg.output.trans h.kp.output, Nat.le_trans h.kp.size hg.size, fun k h1 h2 h3 h4 => by
    rw [hg.block k (Nat.lt_of_lt_of_le h1 h.kp.size) (fun c => by have := (vb k c.symm).1; omega)]; exact h.kp.block k h1 h2 h3 h4⟩
  have o1 := e g8 _ h.out (fun cur c => by cases c)
  refine ⟨keeps_new k1 h.hg _, ?_, ⟨x, y, ?_⟩, ?_, ?_, h.hb, h.hr, h.hg, h.br, h.bg, h.rg⟩
  · rw [Below.heap_setCell _ _ _ _ h.bg]; exact e bx _ h.box (fun cur c => by cases c)
  · rw [Below.heap_setCell _ _ _ _ h.rg]; exact e rs _ hxy (fun cur c => by cases c)
  · rw [setCell_eq_setRow W1 g8 0 _ _ _ _ o1, setRow_heap W1 g8 _ _ _ _ o1]; simp
  · exact hown.moved fun g h1 h2 ht => Below.heap_setCell _ _ _ _ (by rintro rfl; have := ht _ _ _ o1; cases this)
end

theorem cell_alloc {w : World} (o : Obj) {a : Addr} {v : Value} (h : w.cell? a = some v) : (w.alloc o).cell? a = some v := (Below.cell (below_box w o) (World.block_lt_of_cell? w _ h)).trans h
theorem cell_below {w w1 : World} (hb : Below w.heap.size w w1) {a : Addr} {v : Value} (h : w.cell? a = some v) : w1.cell? a = some v := (Below.cell hb (World.block_lt_of_cell? w _ h)).trans h
theorem heap_below {w w1 : World} (hb : Below w.heap.size w w1) {g : Nat} {o : Obj} (h : w.heap[g]? = some o) : w1.heap[g]? = some o := (hb.block g (lt_of_heap h)).trans h
theorem heap_alloc {w : World} (o' : Obj) {g : Nat} {o : Obj} (h : w.heap[g]? = some o) : (w.alloc o').heap[g]? = some o := heap_below (below_box w o') h

/-- the box is there behind the call that makes the list, whether the out's variable is made ahead of it .. -/
theorem boxA {w w1 : World} {A R : Obj} {x y : Value} (hA : A = .cells #[x, y] 35) (hb : Below ((w.alloc A).alloc R).drew.heap.size ((w.alloc A).alloc R).drew w1) :
    w1.heap[w.heap.size]? = some A ∧ w1.heap[w.heap.size + 1]? = some R ∧ w1.cell? ⟨w.heap.size, 1, none⟩ = some y ∧ (∀ o, (w1.alloc o).cell? ⟨w.heap.size, 1, none⟩ = some y) ∧ w.heap.size + 2 ≤ w1.heap.size := by
  have e0 : (w.alloc A).heap[w.heap.size]? = some A := heap_alloc_new w A
  have e1 : w1.heap[w.heap.size]? = some A := heap_below hb (heap_alloc R e0)
  have e2 : w1.heap[w.heap.size + 1]? = some R := heap_below hb (by have := heap_alloc_new (w.alloc A) R; rw [World.size_alloc] at this; exact this)
  have e3 : w1.cell? ⟨w.heap.size, 1, none⟩ = some y := by simp [World.cell?, e1, hA]
  exact ⟨e1, e2, e3, fun o => cell_alloc o e3, by have := lt_of_heap e2; omega⟩

/-- .. or not -/
theorem boxB {w w1 : World} {A R Z : Obj} {x y s t : Value} (hA : A = .cells #[x, y] 35) (hZ : Z = .cells #[s, t] 35) (hb : Below (((w.alloc A).alloc R).alloc Z).drew.heap.size (((w.alloc A).alloc R).alloc Z).drew w1) :
    w1.heap[w.heap.size]? = some A ∧ w1.heap[w.heap.size + 1]? = some R ∧ w1.cell? ⟨w.heap.size, 1, none⟩ = some y ∧ w1.heap[w.heap.size + 2]? = some Z ∧ w1.cell? ⟨w.heap.size + 2, 0, none⟩ = some s ∧ w1.cell? ⟨w.heap.size + 2, 1, none⟩ = some t ∧ w1.frozen? ⟨w.heap.size + 2, 0, none⟩ = false ∧ w1.frozen? ⟨w.heap.size + 2, 1, none⟩ = false := by
  have e0 : (w.alloc A).heap[w.heap.size]? = some A := heap_alloc_new w A
  have e1 : w1.heap[w.heap.size]? = some A := heap_below hb (heap_alloc Z (heap_alloc R e0))
  have e2' : ((w.alloc A).alloc R).heap[w.heap.size + 1]? = some R := by have := heap_alloc_new (w.alloc A) R; rw [World.size_alloc] at this; exact this
  have e2 : w1.heap[w.heap.size + 1]? = some R := heap_below hb (heap_alloc Z e2')
  have e4 : w1.heap[w.heap.size + 2]? = some Z := heap_below hb (by have := heap_alloc_new ((w.alloc A).alloc R) Z; rw [World.size_alloc, World.size_alloc] at this; exact this)
  subst hA hZ
  exact ⟨e1, e2, by simp [World.cell?, e1], e4, by simp [World.cell?, e4], by simp [World.cell?, e4], by simp [World.frozen?, e4], by simp [World.frozen?, e4]⟩

end Go.Proofs.Ytpjfhfbjdcgbjab
