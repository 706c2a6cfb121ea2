/-
  The law UsageAdds, its walk.
-/
import Derived.Test.YtojnniacmmcddaaDoorV0
import Derived.Deep.RegionHeld3
namespace Go.Proofs.YtojnniacmmcddaaDoor
open Go.RowKit
open Go.Lib hiding intOf
set_option linter.unusedVariables false
set_option linter.unusedSimpArgs false

/-- three boxes -/
structure B3 (w W : World) (T C D : Array Value) (a b c : TypeId) : Prop where
  one : W.heap[w.heap.size]? = some (.cells T a (0, 0))
  two : W.heap[w.heap.size + 1]? = some (.cells C b (0, 0))
  thr : W.heap[w.heap.size + 2]? = some (.cells D c (0, 0))
  bel : Below w.heap.size w W
  lt : w.heap.size + 3 ≤ W.heap.size

theorem B3.next {w W W' : World} {T C D : Array Value} {a b c : TypeId} (h : B3 w W T C D a b c) (k : Below W.heap.size W W') : B3 w W' T C D a b c := by
  have := h.lt
  exact ⟨by rw [k.block _ (by omega)]; exact h.one, by rw [k.block _ (by omega)]; exact h.two, by rw [k.block _ (by omega)]; exact h.thr, h.bel.trans (k.mono h.bel.size), Nat.le_trans h.lt k.size⟩
theorem B3.drew {w W : World} {T C D : Array Value} {a b c : TypeId} (h : B3 w W T C D a b c) : B3 w W.drew T C D a b c := ⟨h.one, h.two, h.thr, h.bel.drew, h.lt⟩
theorem B3.mk0 (w : World) (T C D : Array Value) (a b c : TypeId) : B3 w (((w.alloc (.cells T a)).alloc (.cells C b)).alloc (.cells D c)) T C D a b c := by
  have s1 := size_box w (.cells T a)
  have s2 := size_box (w.alloc (.cells T a)) (.cells C b)
  have s3 := size_box ((w.alloc (.cells T a)).alloc (.cells C b)) (.cells D c)
  refine ⟨?_, ?_, ?_, ?_, by omega⟩
  · rw [Below.heap_alloc _ _ _ (by omega), Below.heap_alloc _ _ _ (by omega)]; exact heap_alloc_new _ _
  · rw [Below.heap_alloc _ _ _ (by omega)]
    have := heap_alloc_new (w.alloc (.cells T a)) (.cells C b)
    rwa [s1] at this
  · have := heap_alloc_new ((w.alloc (.cells T a)).alloc (.cells C b)) (.cells D c)
    rwa [s2, s1] at this
  · exact ((below_box w _).alloc (by omega) _).alloc (by omega) _

def uCells (b n d l : Int) : Array Value := #[.int .i64 b, .int .i64 n, .int .i64 d, .int .i64 l]

theorem _root_.Go.RowKit.Hid.assoc {F : Int → Int → Int} (hF : Hid (∀ a b, F a b = wrap64 (a + b))) {a b c : Int} (h1 : 0 ≤ a ∧ a ≤ 1152921504606846976) (h2 : 0 ≤ b ∧ b ≤ 1152921504606846976) (h3 : 0 ≤ c ∧ c ≤ 1152921504606846976) : F (F a b) c = F a (F b c) := by
  have k : ∀ z : Int, 0 ≤ z → z ≤ 4611686018427387904 → wrap64 z = z := fun z h h' => by unfold wrap64; omega
  rw [hF.out a b, hF.out b c, k _ (by omega) (by omega), k _ (by omega) (by omega), hF.out, hF.out, k _ (by omega) (by omega), k _ (by omega) (by omega)]
  omega
theorem _root_.Go.RowKit.Hid.zero {F : Int → Int → Int} (hF : Hid (∀ a b, F a b = wrap64 (a + b))) {a : Int} (h1 : 0 ≤ a ∧ a ≤ 1152921504606846976) : F a 0 = a := by
  rw [hF.out]; unfold wrap64; omega

set_option maxRecDepth 20000 in
set_option maxHeartbeats 2000000 in
theorem adds_w (F G : Int → Int → Int) (hF : Hid (∀ a b, F a b = wrap64 (a + b))) (hG : Hid (∀ a b, G a b = max a b)) (b1 n1 d1 l1 b2 n2 d2 l2 b3 n3 d3 l3 : Int) (w : World) (hm : Ml w) :
    Calls Tryd.prog 8 #[.agg #[.int .i64 b1, .int .i64 n1, .int .i64 d1, .int .i64 l1], .agg #[.int .i64 b2, .int .i64 n2, .int .i64 d2, .int .i64 l2], .agg #[.int .i64 b3, .int .i64 n3, .int .i64 d3, .int .i64 l3]] w fun e w' => e = .returned (.bool true) ∧ Below w.heap.size w w' := by
  have KM : Hid (∀ W, Below w.heap.size w W → Calls Tryd.prog 18 #[] W fun e w' => e = .returned (.bool true) ∧ Below W.heap.size W w') := fun W hb => measures_w W (hm.below hb)
  have KP : Hid (∀ W (b1 n1 d1 l1 b2 n2 d2 l2 : Int), Calls Tryd.prog 24 #[.agg #[.int .i64 b1, .int .i64 n1, .int .i64 d1, .int .i64 l1], .agg #[.int .i64 b2, .int .i64 n2, .int .i64 d2, .int .i64 l2]] W fun e w' => e = .returned (.agg #[.int .i64 (F b1 b2), .int .i64 (F n1 n2), .int .i64 (G d1 d2), .int .i64 (G l1 l2)]) ∧ Below W.heap.size W w') := fun W b1 n1 d1 l1 b2 n2 d2 l2 => plus_f F G hF hG b1 n1 d1 l1 b2 n2 d2 l2 W
  have H0 := B3.mk0 w #[.int .i64 b1, .int .i64 n1, .int .i64 d1, .int .i64 l1] #[.int .i64 b2, .int .i64 n2, .int .i64 d2, .int .i64 l2] #[.int .i64 b3, .int .i64 n3, .int .i64 d3, .int .i64 l3] 54 54 54
  clear hm
  go_enter Tryd.func8, Tryd.ntmps8
  go_upto_region 3 with (go_at_call 18; refine (KM.out _ H0.bel).mono ?_; rintro e w1 ⟨rfl, k1⟩; have H1 : Hid (B3 w w1 _ _ _ _ _ _) := H0.next k1)
  have c1 := cells_of H1.out.one
  have c2 := cells_of H1.out.two
  have c3 := cells_of H1.out.thr
  have X2 : Hid (∀ A B, B3 w ((w1.alloc A).alloc B) _ _ _ _ _ _) := fun A B => (H1.out.next (below_box w1 A)).next (below_box _ B)
  have X3 : Hid (∀ A B C, B3 w (((w1.alloc A).alloc B).alloc C) _ _ _ _ _ _) := fun A B C => (X2.out A B).next (below_box _ C)
  have X4 : Hid (∀ A B C D, B3 w ((((w1.alloc A).alloc B).alloc C).alloc D) _ _ _ _ _ _) := fun A B C D => (X3.out A B C).next (below_box _ D)
  go_wp2_with fail
  refine wp_loop_rounds 4 ?_
  rw [rounds_succ]
  go_wp2_with fail
  all_goals try (go_ret; first | exact ⟨rfl, (X4.out _ _ _ _).bel⟩ | exact ⟨rfl, (X3.out _ _ _).bel⟩ | exact ⟨rfl, (X2.out _ _).bel⟩)
  rw [rounds_succ]
  go_wp2_with fail
  all_goals try (go_ret; first | exact ⟨rfl, (X4.out _ _ _ _).bel⟩ | exact ⟨rfl, (X3.out _ _ _).bel⟩ | exact ⟨rfl, (X2.out _ _).bel⟩)
  rw [rounds_succ]
  go_wp2_with fail
  all_goals try (go_ret; first | exact ⟨rfl, (X4.out _ _ _ _).bel⟩ | exact ⟨rfl, (X3.out _ _ _).bel⟩ | exact ⟨rfl, (X2.out _ _).bel⟩)
  rw [rounds_succ]
  go_wp2_with fail
  have e1 : F b2 b1 = F b1 b2 := by rw [hF.out, hF.out, Int.add_comm]
  have e2 : F n2 n1 = F n1 n2 := by rw [hF.out, hF.out, Int.add_comm]
  have e3 : G d2 d1 = G d1 d2 := by rw [hG.out, hG.out]; omega
  have e4 : G l2 l1 = G l1 l2 := by rw [hG.out, hG.out]; omega
  have e5 : F (F b1 b2) b3 = F b1 (F b2 b3) := hF.assoc (by omega) (by omega) (by omega)
  have e6 : F (F n1 n2) n3 = F n1 (F n2 n3) := hF.assoc (by omega) (by omega) (by omega)
  have e7 : G (G d1 d2) d3 = G d1 (G d2 d3) := by rw [hG.out, hG.out, hG.out, hG.out]; omega
  have e8 : G (G l1 l2) l3 = G l1 (G l2 l3) := by rw [hG.out, hG.out, hG.out, hG.out]; omega
  have e9 : F b1 0 = b1 := hF.zero (by omega)
  have e10 : F n1 0 = n1 := hF.zero (by omega)
  have e11 : G d1 0 = d1 := by rw [hG.out]; omega
  have e12 : G l1 0 = l1 := by rw [hG.out]; omega
  have HS : Hid (∀ W, B3 w W #[.int .i64 b1, .int .i64 n1, .int .i64 d1, .int .i64 l1] #[.int .i64 b2, .int .i64 n2, .int .i64 d2, .int .i64 l2] #[.int .i64 b3, .int .i64 n3, .int .i64 d3, .int .i64 l3] 54 54 54 → (∀ k, W.cell? ⟨w.heap.size, k, none⟩ = (#[.int .i64 b1, .int .i64 n1, .int .i64 d1, .int .i64 l1] : Array Value)[k]?) ∧ (∀ k, W.cell? ⟨w.heap.size + 1, k, none⟩ = (#[.int .i64 b2, .int .i64 n2, .int .i64 d2, .int .i64 l2] : Array Value)[k]?) ∧ (∀ k, W.cell? ⟨w.heap.size + 2, k, none⟩ = (#[.int .i64 b3, .int .i64 n3, .int .i64 d3, .int .i64 l3] : Array Value)[k]?)) := fun W h => ⟨cells_of h.one, cells_of h.two, cells_of h.thr⟩
  have H4 := (X4.out (.cells #[.int .i64 b1, .int .i64 n1, .int .i64 d1, .int .i64 l1, .int .i64 b2, .int .i64 n2, .int .i64 d2, .int .i64 l2, .int .i64 b3, .int .i64 n3, .int .i64 d3, .int .i64 l3] 54) (.cells #[.int .i64 b1, .int .i64 n1, .int .i64 d1, .int .i64 l1] 54) (.cells #[.int .i64 b2, .int .i64 n2, .int .i64 d2, .int .i64 l2] 54) (.cells #[.int .i64 b3, .int .i64 n3, .int .i64 d3, .int .i64 l3] 54))
  clear c1 c2 c3 H0 H1 X2 X3 X4 KM k1
  generalize ((((w1.alloc _).alloc _).alloc _).alloc _) = w5 at *
  have L := H4.drew
  have hS := HS.out _ L
  go_region_held3 (fun W => (∀ k, W.cell? ⟨w.heap.size, k, none⟩ = (#[.int .i64 b1, .int .i64 n1, .int .i64 d1, .int .i64 l1] : Array Value)[k]?) ∧ (∀ k, W.cell? ⟨w.heap.size + 1, k, none⟩ = (#[.int .i64 b2, .int .i64 n2, .int .i64 d2, .int .i64 l2] : Array Value)[k]?) ∧ (∀ k, W.cell? ⟨w.heap.size + 2, k, none⟩ = (#[.int .i64 b3, .int .i64 n3, .int .i64 d3, .int .i64 l3] : Array Value)[k]?)) (first | assumption) (
    (go_at_call 24; refine (KP.out _ _ _ _ _ _ _ _ _).mono ?_; rintro e wN ⟨rfl, bN⟩; have L := L.next bN; have hS := HS.out _ L))
  go_wp2_with fail
  go_ret
  exact ⟨rfl, L.bel⟩

theorem adds_walk (b1 n1 d1 l1 b2 n2 d2 l2 b3 n3 d3 l3 : Int) (w : World) (hm : Ml w) :
    Calls Tryd.prog 8 #[.agg #[.int .i64 b1, .int .i64 n1, .int .i64 d1, .int .i64 l1], .agg #[.int .i64 b2, .int .i64 n2, .int .i64 d2, .int .i64 l2], .agg #[.int .i64 b3, .int .i64 n3, .int .i64 d3, .int .i64 l3]] w fun e w' => e = .returned (.bool true) ∧ Below w.heap.size w w' :=
  adds_w (fun a b => wrap64 (a + b)) (fun a b => max a b) (fun _ _ => rfl) (fun _ _ => rfl) b1 n1 d1 l1 b2 n2 d2 l2 b3 n3 d3 l3 w hm

end Go.Proofs.YtojnniacmmcddaaDoor
