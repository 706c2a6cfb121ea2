/-
  The law QuotaMore holds: it returns true for every input.
-/
import Derived.Test.YtgbfacbdagonaabRows
import Derived.Test.YtgbfacbdagonaabOpen
import Derived.ProofKit
import Derived.OpenShut
import Derived.ShutString
import Derived.ChangeOld
import Derived.Below
namespace Go.Proofs.Ytgbfacbdagonaab.quotaMore
open Go.ChangeShapes Go.WideShapes Go.ChangeAt Go.RowKit
set_option linter.unusedVariables false
set_option linter.unusedSimpArgs false

/-- three boxes, kept -/
structure M3 (w W : World) (L A B : Array Value) : Prop where
  lim : W.heap[w.heap.size]? = some (.cells L 23 (0, 0))
  fa : W.heap[w.heap.size + 1]? = some (.cells A 30 (0, 0))
  fb : W.heap[w.heap.size + 2]? = some (.cells B 30 (0, 0))
  bel : Below w.heap.size w W
  lt : w.heap.size + 3 ≤ W.heap.size

theorem M3.next {w W W' : World} {L A B : Array Value} (h : M3 w W L A B) (b : Below W.heap.size W W') : M3 w W' L A B := by
  have := h.lt
  exact ⟨by rw [b.block _ (by omega)]; exact h.lim, by rw [b.block _ (by omega)]; exact h.fa, by rw [b.block _ (by omega)]; exact h.fb, h.bel.trans (b.mono h.bel.size), Nat.le_trans h.lt b.size⟩

theorem M3.mk0 (w : World) (L A B : Array Value) : M3 w (((w.alloc (.cells L 23)).alloc (.cells A 30)).alloc (.cells B 30)) L A B := by
  have s1 := size_alloc w (.cells L 23)
  have s2 := size_alloc (w.alloc (.cells L 23)) (.cells A 30)
  have s3 := size_alloc ((w.alloc (.cells L 23)).alloc (.cells A 30)) (.cells B 30)
  refine ⟨?_, ?_, ?_, ?_, by omega⟩
  · rw [Below.heap_alloc _ _ _ (by omega), Below.heap_alloc _ _ _ (by omega)]; exact heap_alloc_new _ _
  · rw [Below.heap_alloc _ _ _ (by omega)]; exact two_new _ _ _
  · have := heap_alloc_new ((w.alloc (.cells L 23)).alloc (.cells A 30)) (.cells B 30)
    rwa [s2, s1] at this
  · exact ((below_alloc w _).alloc (by omega) _).alloc (by omega) _

theorem less_of {al o k n m o' k' al' : Nat} (h : ¬ (al < o ∧ k * n < (o - al) * m)) (ho : o' ≤ o) (hk : k ≤ k') (ha : al ≤ al') : ¬ (al' < o' ∧ k' * n < (o' - al') * m) := by
  rintro ⟨h1, h2⟩
  refine h ⟨by omega, ?_⟩
  have e1 : k * n ≤ k' * n := Nat.mul_le_mul_right _ hk
  have e2 : (o' - al') * m ≤ (o - al) * m := Nat.mul_le_mul_right _ (by omega)
  omega

set_option maxHeartbeats 4000000 in
theorem walk_no (b i d l n m a x y u v : Int) (w : World) (h : goodL b i d l n m a = false) :
    Calls Try.prog 4 #[.agg #[.int .i64 b, .int .i64 i, .int .i64 d, .int .i64 l, .int .i64 n, .int .i64 m, .int .i64 a], .agg #[.int .i64 x, .int .i64 y], .agg #[.int .i64 u, .int .i64 v]] w fun e w' => e = .returned (.bool true) ∧ Below w.heap.size w w' := by
  have KC : Hid _ := fun W => counts_w W
  have KG : Hid (∀ W, Calls Try.prog 9 #[.agg #[.int .i64 b, .int .i64 i, .int .i64 d, .int .i64 l, .int .i64 n, .int .i64 m, .int .i64 a]] W fun e w' => e = .returned (.bool false) ∧ Below W.heap.size W w') := fun W => by
    have := good_w b i d l n m a W
    rwa [h] at this
  have H0 := M3.mk0 w #[.int .i64 b, .int .i64 i, .int .i64 d, .int .i64 l, .int .i64 n, .int .i64 m, .int .i64 a] #[.int .i64 x, .int .i64 y] #[.int .i64 u, .int .i64 v]
  clear h
  go_enter Try.func4, Try.ntmps4
  go_wp2_with (first
    | (go_at_call 7; refine (KC.out _).mono ?_; rintro e w1 ⟨rfl, b1⟩; have H1 : Hid (M3 w w1 #[.int .i64 b, .int .i64 i, .int .i64 d, .int .i64 l, .int .i64 n, .int .i64 m, .int .i64 a] #[.int .i64 x, .int .i64 y] #[.int .i64 u, .int .i64 v]) := H0.next b1; have f1 := cells_of H1.out.lim)
    | (go_at_call 9; refine (KG.out _).mono ?_; rintro e w2 ⟨rfl, b2⟩; have H2 : Hid (M3 w w2 #[.int .i64 b, .int .i64 i, .int .i64 d, .int .i64 l, .int .i64 n, .int .i64 m, .int .i64 a] #[.int .i64 x, .int .i64 y] #[.int .i64 u, .int .i64 v]) := H1.out.next b2; have fl := cells_of H2.out.lim; have fa := cells_of H2.out.fa; have fb := cells_of H2.out.fb))
  go_ret
  exact ⟨rfl, H2.out.bel⟩

set_option maxHeartbeats 4000000 in
theorem walk_out (b i d l n m a x y u v : Int) (w : World) (h : goodL b i d l n m a = true) (hc : x < 0 ∨ y < 0 ∨ u < x ∨ y < v ∨ v < 0) :
    Calls Try.prog 4 #[.agg #[.int .i64 b, .int .i64 i, .int .i64 d, .int .i64 l, .int .i64 n, .int .i64 m, .int .i64 a], .agg #[.int .i64 x, .int .i64 y], .agg #[.int .i64 u, .int .i64 v]] w fun e w' => e = .returned (.bool true) ∧ Below w.heap.size w w' := by
  have KC : Hid _ := fun W => counts_w W
  have KG : Hid (∀ W, Calls Try.prog 9 #[.agg #[.int .i64 b, .int .i64 i, .int .i64 d, .int .i64 l, .int .i64 n, .int .i64 m, .int .i64 a]] W fun e w' => e = .returned (.bool true) ∧ Below W.heap.size W w') := fun W => by
    have := good_w b i d l n m a W
    rwa [h] at this
  have H0 := M3.mk0 w #[.int .i64 b, .int .i64 i, .int .i64 d, .int .i64 l, .int .i64 n, .int .i64 m, .int .i64 a] #[.int .i64 x, .int .i64 y] #[.int .i64 u, .int .i64 v]
  clear h
  by_cases c1 : x < 0
  · go_enter Try.func4, Try.ntmps4
    go_wp2_with (first
      | (go_at_call 7; refine (KC.out _).mono ?_; rintro e w1 ⟨rfl, b1⟩; have H1 : Hid (M3 w w1 #[.int .i64 b, .int .i64 i, .int .i64 d, .int .i64 l, .int .i64 n, .int .i64 m, .int .i64 a] #[.int .i64 x, .int .i64 y] #[.int .i64 u, .int .i64 v]) := H0.next b1; have f1 := cells_of H1.out.lim)
      | (go_at_call 9; refine (KG.out _).mono ?_; rintro e w2 ⟨rfl, b2⟩; have H2 : Hid (M3 w w2 #[.int .i64 b, .int .i64 i, .int .i64 d, .int .i64 l, .int .i64 n, .int .i64 m, .int .i64 a] #[.int .i64 x, .int .i64 y] #[.int .i64 u, .int .i64 v]) := H1.out.next b2; have fl := cells_of H2.out.lim; have fa := cells_of H2.out.fa; have fb := cells_of H2.out.fb))
    go_ret
    exact ⟨rfl, H2.out.bel⟩
  · by_cases c2 : y < 0
    · go_enter Try.func4, Try.ntmps4
      go_wp2_with (first
        | (go_at_call 7; refine (KC.out _).mono ?_; rintro e w1 ⟨rfl, b1⟩; have H1 : Hid (M3 w w1 #[.int .i64 b, .int .i64 i, .int .i64 d, .int .i64 l, .int .i64 n, .int .i64 m, .int .i64 a] #[.int .i64 x, .int .i64 y] #[.int .i64 u, .int .i64 v]) := H0.next b1; have f1 := cells_of H1.out.lim)
        | (go_at_call 9; refine (KG.out _).mono ?_; rintro e w2 ⟨rfl, b2⟩; have H2 : Hid (M3 w w2 #[.int .i64 b, .int .i64 i, .int .i64 d, .int .i64 l, .int .i64 n, .int .i64 m, .int .i64 a] #[.int .i64 x, .int .i64 y] #[.int .i64 u, .int .i64 v]) := H1.out.next b2; have fl := cells_of H2.out.lim; have fa := cells_of H2.out.fa; have fb := cells_of H2.out.fb))
      go_ret
      exact ⟨rfl, H2.out.bel⟩
    · by_cases c3 : u < x
      · go_enter Try.func4, Try.ntmps4
        go_wp2_with (first
          | (go_at_call 7; refine (KC.out _).mono ?_; rintro e w1 ⟨rfl, b1⟩; have H1 : Hid (M3 w w1 #[.int .i64 b, .int .i64 i, .int .i64 d, .int .i64 l, .int .i64 n, .int .i64 m, .int .i64 a] #[.int .i64 x, .int .i64 y] #[.int .i64 u, .int .i64 v]) := H0.next b1; have f1 := cells_of H1.out.lim)
          | (go_at_call 9; refine (KG.out _).mono ?_; rintro e w2 ⟨rfl, b2⟩; have H2 : Hid (M3 w w2 #[.int .i64 b, .int .i64 i, .int .i64 d, .int .i64 l, .int .i64 n, .int .i64 m, .int .i64 a] #[.int .i64 x, .int .i64 y] #[.int .i64 u, .int .i64 v]) := H1.out.next b2; have fl := cells_of H2.out.lim; have fa := cells_of H2.out.fa; have fb := cells_of H2.out.fb))
        go_ret
        exact ⟨rfl, H2.out.bel⟩
      · by_cases c4 : y < v
        · go_enter Try.func4, Try.ntmps4
          go_wp2_with (first
            | (go_at_call 7; refine (KC.out _).mono ?_; rintro e w1 ⟨rfl, b1⟩; have H1 : Hid (M3 w w1 #[.int .i64 b, .int .i64 i, .int .i64 d, .int .i64 l, .int .i64 n, .int .i64 m, .int .i64 a] #[.int .i64 x, .int .i64 y] #[.int .i64 u, .int .i64 v]) := H0.next b1; have f1 := cells_of H1.out.lim)
            | (go_at_call 9; refine (KG.out _).mono ?_; rintro e w2 ⟨rfl, b2⟩; have H2 : Hid (M3 w w2 #[.int .i64 b, .int .i64 i, .int .i64 d, .int .i64 l, .int .i64 n, .int .i64 m, .int .i64 a] #[.int .i64 x, .int .i64 y] #[.int .i64 u, .int .i64 v]) := H1.out.next b2; have fl := cells_of H2.out.lim; have fa := cells_of H2.out.fa; have fb := cells_of H2.out.fb))
          go_ret
          exact ⟨rfl, H2.out.bel⟩
        · have c5 : v < 0 := by omega
          clear hc
          go_enter Try.func4, Try.ntmps4
          go_wp2_with (first
            | (go_at_call 7; refine (KC.out _).mono ?_; rintro e w1 ⟨rfl, b1⟩; have H1 : Hid (M3 w w1 #[.int .i64 b, .int .i64 i, .int .i64 d, .int .i64 l, .int .i64 n, .int .i64 m, .int .i64 a] #[.int .i64 x, .int .i64 y] #[.int .i64 u, .int .i64 v]) := H0.next b1; have f1 := cells_of H1.out.lim)
            | (go_at_call 9; refine (KG.out _).mono ?_; rintro e w2 ⟨rfl, b2⟩; have H2 : Hid (M3 w w2 #[.int .i64 b, .int .i64 i, .int .i64 d, .int .i64 l, .int .i64 n, .int .i64 m, .int .i64 a] #[.int .i64 x, .int .i64 y] #[.int .i64 u, .int .i64 v]) := H1.out.next b2; have fl := cells_of H2.out.lim; have fa := cells_of H2.out.fa; have fb := cells_of H2.out.fb))
          go_ret
          exact ⟨rfl, H2.out.bel⟩

set_option maxRecDepth 20000 in
set_option maxHeartbeats 4000000 in
theorem walk_bad (b i d l n m a a2 x y u v : Int) (w : World) (h : goodL b i d l n m a = true) (g1 : ¬ x < 0) (g2 : ¬ y < 0) (g3 : ¬ u < x) (g4 : ¬ y < v) (g5 : ¬ v < 0) (hw1 : wrap64 (a + 1) = a + 1) (hm1 : Hid ((if 4611686018427387903 < a + 1 then 4611686018427387903 else a + 1) = a2)) (R1 : Hid (∀ W, Calls Try.prog 8 #[.agg #[.int .i64 b, .int .i64 i, .int .i64 d, .int .i64 l, .int .i64 n, .int .i64 m, .int .i64 a], .int .i64 x, .int .i64 y] W fun e w' => e = .returned (.int .i64 151) ∧ Below W.heap.size W w')) :
    Calls Try.prog 4 #[.agg #[.int .i64 b, .int .i64 i, .int .i64 d, .int .i64 l, .int .i64 n, .int .i64 m, .int .i64 a], .agg #[.int .i64 x, .int .i64 y], .agg #[.int .i64 u, .int .i64 v]] w fun e w' => e = .returned (.bool true) ∧ Below w.heap.size w w' := by
  have KC : Hid _ := fun W => counts_w W
  have KG : Hid (∀ W, Calls Try.prog 9 #[.agg #[.int .i64 b, .int .i64 i, .int .i64 d, .int .i64 l, .int .i64 n, .int .i64 m, .int .i64 a]] W fun e w' => e = .returned (.bool true) ∧ Below W.heap.size W w') := fun W => by
    have := good_w b i d l n m a W
    rwa [h] at this
  have H0 := M3.mk0 w #[.int .i64 b, .int .i64 i, .int .i64 d, .int .i64 l, .int .i64 n, .int .i64 m, .int .i64 a] #[.int .i64 x, .int .i64 y] #[.int .i64 u, .int .i64 v]
  clear h
  go_enter Try.func4, Try.ntmps4
  go_upto_region 5 with (first
    | (go_at_call 7; refine (KC.out _).mono ?_; rintro e w1 ⟨rfl, b1⟩; have H1 : Hid (M3 w w1 #[.int .i64 b, .int .i64 i, .int .i64 d, .int .i64 l, .int .i64 n, .int .i64 m, .int .i64 a] #[.int .i64 x, .int .i64 y] #[.int .i64 u, .int .i64 v]) := H0.next b1; have f1 := cells_of H1.out.lim)
    | (go_at_call 9; refine (KG.out _).mono ?_; rintro e w2 ⟨rfl, b2⟩; have H2 : Hid (M3 w w2 #[.int .i64 b, .int .i64 i, .int .i64 d, .int .i64 l, .int .i64 n, .int .i64 m, .int .i64 a] #[.int .i64 x, .int .i64 y] #[.int .i64 u, .int .i64 v]) := H1.out.next b2; have fl := cells_of H2.out.lim; have fa := cells_of H2.out.fa; have fb := cells_of H2.out.fb))
  clear b1 b2 H1 f1 fa fb H0 KC KG
  have lt2 : w.heap.size < w2.heap.size := (by have := H2.out.lt; omega)
  go_upto_region 7 with fail
  rw [hm1.out]
  have k3 : Hid (M3 w (w2.alloc (.cells #[.int .i64 b, .int .i64 i, .int .i64 d, .int .i64 l, .int .i64 n, .int .i64 m, .int .i64 a2] 23)) #[.int .i64 b, .int .i64 i, .int .i64 d, .int .i64 l, .int .i64 n, .int .i64 m, .int .i64 a] #[.int .i64 x, .int .i64 y] #[.int .i64 u, .int .i64 v]) := H2.out.next (below_alloc _ _)
  have n3 : Hid ((w2.alloc (.cells #[.int .i64 b, .int .i64 i, .int .i64 d, .int .i64 l, .int .i64 n, .int .i64 m, .int .i64 a2] 23)).heap[w2.heap.size]? = some (.cells #[.int .i64 b, .int .i64 i, .int .i64 d, .int .i64 l, .int .i64 n, .int .i64 m, .int .i64 a2] 23 (0, 0))) := heap_alloc_new _ _
  have z3 : Hid (w2.heap.size < (w2.alloc (.cells #[.int .i64 b, .int .i64 i, .int .i64 d, .int .i64 l, .int .i64 n, .int .i64 m, .int .i64 a2] 23)).heap.size) := (by show _ < _; rw [size_alloc]; omega)
  clear lt2 H2 fl hm1
  generalize w2.alloc _ = w3 at *
  generalize w2.heap.size = g at *
  have fl := cells_of k3.out.lim
  have fa := cells_of k3.out.fa
  have fb := cells_of k3.out.fb
  have fm := cells_of n3.out
  go_wp2_with (first
    | (go_at_call 8; have dn := k5; refine (R3.out _).mono ?_; rintro e w6 ⟨rfl, b6⟩; have k6 : Hid (M3 w w6 #[.int .i64 b, .int .i64 i, .int .i64 d, .int .i64 l, .int .i64 n, .int .i64 m, .int .i64 a] #[.int .i64 x, .int .i64 y] #[.int .i64 u, .int .i64 v]) := k5.out.next b6)
    | (go_at_call 8; have dn := k4; refine (R2.out _).mono ?_; rintro e w5 ⟨rfl, b5⟩; have k5 : Hid (M3 w w5 #[.int .i64 b, .int .i64 i, .int .i64 d, .int .i64 l, .int .i64 n, .int .i64 m, .int .i64 a] #[.int .i64 x, .int .i64 y] #[.int .i64 u, .int .i64 v]) := k4.out.next b5; have gl := cells_of k5.out.lim; have ga := cells_of k5.out.fa; have gb := cells_of k5.out.fb; have gm := cells_of ((b5.block _ (Nat.lt_of_lt_of_le z3.out b4.size)).trans n4.out))
    | (go_at_call 8; refine (R1.out _).mono ?_; rintro e w4 ⟨rfl, b4⟩; have k4 : Hid (M3 w w4 #[.int .i64 b, .int .i64 i, .int .i64 d, .int .i64 l, .int .i64 n, .int .i64 m, .int .i64 a] #[.int .i64 x, .int .i64 y] #[.int .i64 u, .int .i64 v]) := k3.out.next b4; have hl := cells_of k4.out.lim; have ha := cells_of k4.out.fa; have hb := cells_of k4.out.fb; have n4 : Hid (w4.heap[g]? = some (.cells #[.int .i64 b, .int .i64 i, .int .i64 d, .int .i64 l, .int .i64 n, .int .i64 m, .int .i64 a2] 23 (0, 0))) := (b4.block _ z3.out).trans n3.out; have hm := cells_of n4.out))
  go_ret
  exact ⟨rfl, k4.out.bel⟩

set_option maxRecDepth 20000 in
set_option maxHeartbeats 4000000 in
theorem walk_in (b i d l n m a a2 x y u v : Int) (w : World) (h : goodL b i d l n m a = true) (g1 : ¬ x < 0) (g2 : ¬ y < 0) (g3 : ¬ u < x) (g4 : ¬ y < v) (g5 : ¬ v < 0) (hw1 : wrap64 (a + 1) = a + 1) (hm1 : Hid ((if 4611686018427387903 < a + 1 then 4611686018427387903 else a + 1) = a2)) (R1 : Hid (∀ W, Calls Try.prog 8 #[.agg #[.int .i64 b, .int .i64 i, .int .i64 d, .int .i64 l, .int .i64 n, .int .i64 m, .int .i64 a], .int .i64 x, .int .i64 y] W fun e w' => e = .returned (.int .i64 0) ∧ Below W.heap.size W w')) (R2 : Hid (∀ W, Calls Try.prog 8 #[.agg #[.int .i64 b, .int .i64 i, .int .i64 d, .int .i64 l, .int .i64 n, .int .i64 m, .int .i64 a], .int .i64 u, .int .i64 v] W fun e w' => e = .returned (.int .i64 0) ∧ Below W.heap.size W w')) (R3 : Hid (∀ W, Calls Try.prog 8 #[.agg #[.int .i64 b, .int .i64 i, .int .i64 d, .int .i64 l, .int .i64 n, .int .i64 m, .int .i64 a2], .int .i64 x, .int .i64 y] W fun e w' => e = .returned (.int .i64 0) ∧ Below W.heap.size W w')) :
    Calls Try.prog 4 #[.agg #[.int .i64 b, .int .i64 i, .int .i64 d, .int .i64 l, .int .i64 n, .int .i64 m, .int .i64 a], .agg #[.int .i64 x, .int .i64 y], .agg #[.int .i64 u, .int .i64 v]] w fun e w' => e = .returned (.bool true) ∧ Below w.heap.size w w' := by
  have KC : Hid _ := fun W => counts_w W
  have KG : Hid (∀ W, Calls Try.prog 9 #[.agg #[.int .i64 b, .int .i64 i, .int .i64 d, .int .i64 l, .int .i64 n, .int .i64 m, .int .i64 a]] W fun e w' => e = .returned (.bool true) ∧ Below W.heap.size W w') := fun W => by
    have := good_w b i d l n m a W
    rwa [h] at this
  have H0 := M3.mk0 w #[.int .i64 b, .int .i64 i, .int .i64 d, .int .i64 l, .int .i64 n, .int .i64 m, .int .i64 a] #[.int .i64 x, .int .i64 y] #[.int .i64 u, .int .i64 v]
  clear h
  go_enter Try.func4, Try.ntmps4
  go_upto_region 5 with (first
    | (go_at_call 7; refine (KC.out _).mono ?_; rintro e w1 ⟨rfl, b1⟩; have H1 : Hid (M3 w w1 #[.int .i64 b, .int .i64 i, .int .i64 d, .int .i64 l, .int .i64 n, .int .i64 m, .int .i64 a] #[.int .i64 x, .int .i64 y] #[.int .i64 u, .int .i64 v]) := H0.next b1; have f1 := cells_of H1.out.lim)
    | (go_at_call 9; refine (KG.out _).mono ?_; rintro e w2 ⟨rfl, b2⟩; have H2 : Hid (M3 w w2 #[.int .i64 b, .int .i64 i, .int .i64 d, .int .i64 l, .int .i64 n, .int .i64 m, .int .i64 a] #[.int .i64 x, .int .i64 y] #[.int .i64 u, .int .i64 v]) := H1.out.next b2; have fl := cells_of H2.out.lim; have fa := cells_of H2.out.fa; have fb := cells_of H2.out.fb))
  clear b1 b2 H1 f1 fa fb H0 KC KG
  have lt2 : w.heap.size < w2.heap.size := (by have := H2.out.lt; omega)
  go_upto_region 7 with fail
  rw [hm1.out]
  have k3 : Hid (M3 w (w2.alloc (.cells #[.int .i64 b, .int .i64 i, .int .i64 d, .int .i64 l, .int .i64 n, .int .i64 m, .int .i64 a2] 23)) #[.int .i64 b, .int .i64 i, .int .i64 d, .int .i64 l, .int .i64 n, .int .i64 m, .int .i64 a] #[.int .i64 x, .int .i64 y] #[.int .i64 u, .int .i64 v]) := H2.out.next (below_alloc _ _)
  have n3 : Hid ((w2.alloc (.cells #[.int .i64 b, .int .i64 i, .int .i64 d, .int .i64 l, .int .i64 n, .int .i64 m, .int .i64 a2] 23)).heap[w2.heap.size]? = some (.cells #[.int .i64 b, .int .i64 i, .int .i64 d, .int .i64 l, .int .i64 n, .int .i64 m, .int .i64 a2] 23 (0, 0))) := heap_alloc_new _ _
  have z3 : Hid (w2.heap.size < (w2.alloc (.cells #[.int .i64 b, .int .i64 i, .int .i64 d, .int .i64 l, .int .i64 n, .int .i64 m, .int .i64 a2] 23)).heap.size) := (by show _ < _; rw [size_alloc]; omega)
  clear lt2 H2 fl hm1
  generalize w2.alloc _ = w3 at *
  generalize w2.heap.size = g at *
  have fl := cells_of k3.out.lim
  have fa := cells_of k3.out.fa
  have fb := cells_of k3.out.fb
  have fm := cells_of n3.out
  go_wp2_with (first
    | (go_at_call 8; have dn := k5; refine (R3.out _).mono ?_; rintro e w6 ⟨rfl, b6⟩; have k6 : Hid (M3 w w6 #[.int .i64 b, .int .i64 i, .int .i64 d, .int .i64 l, .int .i64 n, .int .i64 m, .int .i64 a] #[.int .i64 x, .int .i64 y] #[.int .i64 u, .int .i64 v]) := k5.out.next b6)
    | (go_at_call 8; have dn := k4; refine (R2.out _).mono ?_; rintro e w5 ⟨rfl, b5⟩; have k5 : Hid (M3 w w5 #[.int .i64 b, .int .i64 i, .int .i64 d, .int .i64 l, .int .i64 n, .int .i64 m, .int .i64 a] #[.int .i64 x, .int .i64 y] #[.int .i64 u, .int .i64 v]) := k4.out.next b5; have gl := cells_of k5.out.lim; have ga := cells_of k5.out.fa; have gb := cells_of k5.out.fb; have gm := cells_of ((b5.block _ (Nat.lt_of_lt_of_le z3.out b4.size)).trans n4.out))
    | (go_at_call 8; refine (R1.out _).mono ?_; rintro e w4 ⟨rfl, b4⟩; have k4 : Hid (M3 w w4 #[.int .i64 b, .int .i64 i, .int .i64 d, .int .i64 l, .int .i64 n, .int .i64 m, .int .i64 a] #[.int .i64 x, .int .i64 y] #[.int .i64 u, .int .i64 v]) := k3.out.next b4; have hl := cells_of k4.out.lim; have ha := cells_of k4.out.fa; have hb := cells_of k4.out.fb; have n4 : Hid (w4.heap[g]? = some (.cells #[.int .i64 b, .int .i64 i, .int .i64 d, .int .i64 l, .int .i64 n, .int .i64 m, .int .i64 a2] 23 (0, 0))) := (b4.block _ z3.out).trans n3.out; have hm := cells_of n4.out))
  go_ret
  exact ⟨rfl, k6.out.bel⟩

theorem walk (b i d l n m a x y u v : Int) (w : World) (_ : Fit b) (_ : Fit i) (_ : Fit n) (_ : Fit m) (_ : Fit a) (hx : Fit x) (hy : Fit y) (hu : Fit u) (hv : Fit v) :
    Calls Try.prog 4 #[.agg #[.int .i64 b, .int .i64 i, .int .i64 d, .int .i64 l, .int .i64 n, .int .i64 m, .int .i64 a], .agg #[.int .i64 x, .int .i64 y], .agg #[.int .i64 u, .int .i64 v]] w fun e w' => e = .returned (.bool true) ∧ Below w.heap.size w w' := by
  cases h : goodL b i d l n m a with
  | false => exact walk_no b i d l n m a x y u v w h
  | true =>
    by_cases hc : x < 0 ∨ y < 0 ∨ u < x ∨ y < v ∨ v < 0
    · exact walk_out b i d l n m a x y u v w h hc
    · simp only [not_or] at hc
      obtain ⟨c1, c2, c3, c4, c5⟩ := hc
      have hg := of_decide_eq_true h
      unfold Fit at hx hy hu hv
      obtain ⟨a2, ha2, ha3, ha4⟩ : ∃ a2 : Int, (if 4611686018427387903 < a + 1 then 4611686018427387903 else a + 1) = a2 ∧ a ≤ a2 ∧ a2 < 4611686018427387904 := by
        by_cases c : 4611686018427387903 < a + 1
        · exact ⟨_, if_pos c, by omega, by omega⟩
        · exact ⟨_, if_neg c, by omega, by omega⟩
      obtain ⟨n', rfl⟩ : ∃ k : Nat, n = (k : Int) := ⟨n.toNat, by omega⟩
      obtain ⟨m', rfl⟩ : ∃ k : Nat, m = (k : Int) := ⟨m.toNat, by omega⟩
      obtain ⟨a', rfl⟩ : ∃ k : Nat, a = (k : Int) := ⟨a.toNat, by omega⟩
      obtain ⟨a2', rfl⟩ : ∃ k : Nat, a2 = (k : Int) := ⟨a2.toNat, by omega⟩
      obtain ⟨x', rfl⟩ : ∃ k : Nat, x = (k : Int) := ⟨x.toNat, by omega⟩
      obtain ⟨y', rfl⟩ : ∃ k : Nat, y = (k : Int) := ⟨y.toNat, by omega⟩
      obtain ⟨u', rfl⟩ : ∃ k : Nat, u = (k : Int) := ⟨u.toNat, by omega⟩
      obtain ⟨v', rfl⟩ : ∃ k : Nat, v = (k : Int) := ⟨v.toNat, by omega⟩
      have e3 : a' ≤ a2' := Int.ofNat_le.1 ha3
      have e1 : v' ≤ y' := Int.ofNat_le.1 (Int.not_lt.1 c4)
      have e2 : x' ≤ u' := Int.ofNat_le.1 (Int.not_lt.1 c3)
      have R1 := fun W => ratio_good b i d l a' n' m' x' y' a' W rfl (by omega) (by omega) (by omega) (by omega)
      have R2 := fun W => ratio_good b i d l a' n' m' u' v' a' W rfl (by omega) (by omega) (by omega) (by omega)
      have R3 := fun W => ratio_good b i d l a2' n' m' x' y' a2' W rfl (by omega) (by omega) (by omega) (by omega)
      have hw1 : wrap64 ((a' : Int) + 1) = (a' : Int) + 1 := by apply w64_id <;> omega
      by_cases hr : a' < y' ∧ x' * n' < (y' - a') * m'
      · rw [if_pos hr] at R1
        exact walk_bad b i d l n' m' a' a2' x' y' u' v' w h c1 c2 c3 c4 c5 hw1 ha2 R1
      · rw [if_neg hr] at R1
        have hr2 := less_of hr e1 e2 (Nat.le_refl a')
        have hr3 := less_of hr (Nat.le_refl y') (Nat.le_refl x') e3
        rw [if_neg hr2] at R2
        rw [if_neg hr3] at R3
        exact walk_in b i d l n' m' a' a2' x' y' u' v' w h c1 c2 c3 c4 c5 hw1 ha2 R1 R2 R3

theorem own : ownKnob Try.prog.godebug = none := by kernel_rfl
theorem laidOut : laidOutB Try.prog = true := by kernel_rfl
set_option maxRecDepth 100000 in
theorem lifted (os : Os) (started : os.Started) (H : Type) (enc : TypeId × Value → H) :
    ReturnsInHanded {} Try.checked os 4 .any (Rows.quotaMoreSpec.pre6 enc Try.prog Try.f4 Rows.quotaMoreRow.domain false) (Rows.quotaMoreSpec.post enc Try.prog Try.f4 false true false false) := by
  refine returnsInHanded_of_change (C := Try.checked) own started (by kernel_rfl) Try.func4
    (ChangeSpec.witness6 (enc := enc) (C := Try.checked) false ⟨#[], #[.agg #[.int .i64 0, .int .i64 0, .int .i64 0, .int .i64 0, .int .i64 0, .int .i64 0, .int .i64 0], .agg #[.int .i64 0, .int .i64 0], .agg #[.int .i64 0, .int .i64 0]], []⟩ 8 (by kernel_rfl) (by kernel_rfl) (by kernel_rfl) (by kernel_rfl)) ?_
  intro W base args ds gs before hval0 hW hcnd _
  have hval : ∀ (j : Nat) t v, Try.f4.params[j]? = some t → args[j]? = some v → Value.okWide Try.prog W .any base t v := hval0
  have hW' := hW
  obtain ⟨p, q, hA0, hV, rfl, hfz, hnd⟩ := hW
  have hA : DataW.TrodAll enc Try.prog W 0 (fun _ => true) true Try.f4.params.toList args.toList ds p := hA0
  rw [Try.params4] at hA hval
  obtain ⟨v0, vs0, d0, ds0, p0, q0, hargs, rfl, rfl, h0, r0⟩ := trodAll_cons hA
  obtain ⟨v1, vs1, d1, ds1, p1, q1, rfl, rfl, rfl, h1, r1⟩ := trodAll_cons r0
  obtain ⟨v2, vs2, d2, ds2, p2, q2, rfl, rfl, rfl, h2, r2⟩ := trodAll_cons r1
  obtain ⟨rfl, rfl, rfl⟩ := trodAll_nil r2
  obtain rfl : args = #[v0, v1, v2] := by cases args; simp_all
  obtain ⟨rfl, rfl⟩ := trodVars_none hV
  have k0 := h0
  have lt0 : ∀ x ∈ p0, x.block < W.heap.size := by obtain ⟨m, hm⟩ := k0; exact DataW.trod_lt m _ _ _ hm
  obtain ⟨lb, li, ld, ll, ln, lm, la, rfl, f0, f1, f4, f5, f6⟩ := open_lim (hval 0 23 v0 rfl rfl) h0
  have k1 := h1
  have lt1 : ∀ x ∈ p1, x.block < W.heap.size := by obtain ⟨m, hm⟩ := k1; exact DataW.trod_lt m _ _ _ hm
  obtain ⟨x1, y1, rfl, t1, u1⟩ := open_two (hval 1 30 v1 rfl rfl) h1
  have k2 := h2
  have lt2 : ∀ x ∈ p2, x.block < W.heap.size := by obtain ⟨m, hm⟩ := k2; exact DataW.trod_lt m _ _ _ hm
  obtain ⟨x2, y2, rfl, t2, u2⟩ := open_two (hval 2 30 v2 rfl rfl) h2
  clear hA0 hval0
  refine (walk lb li ld ll ln lm la x1 y1 x2 y2 W f0 f1 f4 f5 f6 t1 u1 t2 u2).mono fun e W' ⟨he, bel⟩ => ?_
  subst he
  exact ⟨_, rfl, _, _, _, [], _, [], hW', trodAll_mk1 (shut_bool Try.underlying4 _), (trodAll_cons_mk (Below.trod laidOut (by kernel_rfl) (of_decide_eq_true (by kernel_rfl)) k0 bel lt0) (trodAll_cons_mk (Below.trod laidOut (by kernel_rfl) (of_decide_eq_true (by kernel_rfl)) k1 bel lt1) (trodAll_cons_mk (Below.trod laidOut (by kernel_rfl) (of_decide_eq_true (by kernel_rfl)) k2 bel lt2) trodAll_mk0))), rfl, bel.frame _, fun h => by cases h⟩

theorem over : Rows.quotaMoreRow.holds Try.pinned (OpenSpec.ofChange Rows.quotaMoreSpec) :=
  OpenClaim.holds_of_wide 4 Try.f4 rfl rfl rfl rfl rfl rfl rfl ⟨rfl, rfl, rfl, rfl, rfl⟩ rfl rfl rfl rfl rfl (by kernel_rfl) Try.func4 (by kernel_rfl)
    (of_decide_eq_true (by kernel_rfl)) (by unfold Func.isWrapper; first | (rw [if_pos (by decide +kernel)]; kernel_rfl) | (rw [if_neg (by decide +kernel)]; exact ⟨rfl, rfl⟩))
    (fun os started H enc _ => lifted os started H enc)

end Go.Proofs.Ytgbfacbdagonaab.quotaMore
namespace Go.Proofs.Ytgbfacbdagonaab
theorem quotaMore_holds : Rows.QuotaMoreSaid := quotaMore.over
#print axioms quotaMore_holds
end Go.Proofs.Ytgbfacbdagonaab
