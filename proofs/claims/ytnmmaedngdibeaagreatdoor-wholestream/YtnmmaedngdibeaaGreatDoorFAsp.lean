/-
  Contracts: errors.As at a place.
-/
import Derived.Test.YtnmmaedngdibeaaGreatDoorFAs
namespace Go.Proofs.YtnmmaedngdibeaaGreatDoor.F
open Go.RowKit Go.Extern.Stop Go.Stop Go.Extern

set_option maxRecDepth 100000 in
set_option maxHeartbeats 2000000 in
/-- errors.as at a place: the error itself is one. -/
theorem asp_hit (p : Int) (t : TypeId) (x : Value) (a N : Nat) (o1 o2 : Value) (w : World) (hN : N < a) (ha : a < w.heap.size) (hA : w.cell? ⟨a, 0, none⟩ = some (.pointer (some ⟨N, 0, none⟩))) (hc0 : w.cell? ⟨N, 0, none⟩ = some o1) (hc1 : w.cell? ⟨N, 1, none⟩ = some o2) (hf0 : w.frozen? ⟨N, 0, none⟩ = false) (hf1 : w.frozen? ⟨N, 1, none⟩ = false) (tg : Value) :
    Calls Tryz.prog 48 #[.iface 79 (.agg #[.int .i64 p, .iface t x]), tg, .agg #[.pointer (some ⟨14, 80, none⟩), .pointer (some ⟨a, 0, none⟩), .int .u64 150], .iface 122 (.agg #[.pointer (some ⟨14, 79, none⟩)])] w fun ev w' => ev = .returned (.bool true) ∧ w'.cell? ⟨N, 0, none⟩ = some (.int .i64 p) ∧ Below N w w' := by
  have f2 := typeOf36
  have f3 := methodAssignableTo
  have f4 := assign3636
  have f9 := valueOf36
  obtain ⟨w1, hw1⟩ : ∃ w1, w1 = w.alloc (.cells #[.pointer (some ⟨14, 80, none⟩), .pointer (some ⟨a, 0, none⟩), .int .u64 150] 97) := ⟨_, rfl⟩
  have hsz : w1.heap.size = w.heap.size + 1 := by rw [hw1]; simp
  have hold : ∀ i (hi : i < w.heap.size) o, w1.cell? ⟨i, o, none⟩ = w.cell? ⟨i, o, none⟩ := fun i hi o => by rw [hw1]; exact World.cell?_alloc_lt _ _ _ hi
  have holdf : ∀ i (hi : i < w.heap.size) o, w1.frozen? ⟨i, o, none⟩ = w.frozen? ⟨i, o, none⟩ := fun i hi o => by rw [hw1]; exact World.frozen?_alloc_old _ _ _ (Nat.ne_of_lt hi)
  have hE := elemV44 ⟨a, 0, none⟩ ⟨N, 0, none⟩ w1 ((hold a ha 0).trans hA)
  have g0 : (w1.alloc (.cells #[.int .i64 p, .iface t x] 79)).cell? ⟨N, 0, none⟩ = some o1 := by rw [World.cell?_alloc_lt _ _ _ (by show N < _; omega)]; exact (hold N (by omega) 0).trans hc0
  have g1 : (w1.alloc (.cells #[.int .i64 p, .iface t x] 79)).cell? ⟨N, 1, none⟩ = some o2 := by rw [World.cell?_alloc_lt _ _ _ (by show N < _; omega)]; exact (hold N (by omega) 1).trans hc1
  have g2 : ((w1.alloc (.cells #[.int .i64 p, .iface t x] 79)).setCell ⟨N, 0, none⟩ (.int .i64 p)).cell? ⟨N, 1, none⟩ = some o2 := by rw [World.cell?_setCell_other _ _ _ _ (by simp)]; exact g1
  have hS := set36 ⟨N, 0, none⟩ ⟨w1.heap.size, 0, none⟩ p t x o1 o2 (w1.alloc (.cells #[.int .i64 p, .iface t x] 79)) (by simp) (by simp [Addr.add]) g0 (by simpa [Addr.add] using g2)
    (by rw [World.frozen?_alloc_old _ _ _ (by show N ≠ _; omega)]; exact (holdf N (by omega) 0).trans hf0)
    (by rw [World.frozen?_alloc_old _ _ _ (by show N ≠ _; omega)]; simpa [Addr.add] using (holdf N (by omega) 1).trans hf1)
  have ea : (⟨N, 0, none⟩ : Addr).add 1 = ⟨N, 1, none⟩ := by simp [Addr.add]
  rw [ea] at hS
  have HF : Hid (Below N w (((w1.alloc (.cells #[.int .i64 p, .iface t x] 79)).setCell ⟨N, 0, none⟩ (.int .i64 p)).setCell ⟨N, 1, none⟩ (.iface t x)) ∧ (((w1.alloc (.cells #[.int .i64 p, .iface t x] 79)).setCell ⟨N, 0, none⟩ (.int .i64 p)).setCell ⟨N, 1, none⟩ (.iface t x)).cell? ⟨N, 0, none⟩ = some (.int .i64 p)) := by
    refine ⟨?_, ?_⟩
    · rw [hw1]
      exact ((((Below.refl N w).alloc (by omega) _).alloc (by simp; omega) _).setCell (p := ⟨N, 0, none⟩) (Nat.le_refl _) _).setCell (p := ⟨N, 1, none⟩) (Nat.le_refl _) _
    · rw [World.cell?_setCell_other _ _ _ _ (by simp), World.cell?_setCell_same _ _ _ g0]
  clear g0 g1 g2 hold holdf hsz ea
  subst hw1
  simp only [World.size_alloc] at hS
  go_enter Tryz.func48, Tryz.ntmps48
  go_wp2_with fail
  refine wp_loop_rounds 1 ?_
  rw [rounds_succ]
  go_wp2
  go_ret
  exact ⟨rfl, HF.out.2, HF.out.1⟩

set_option maxRecDepth 100000 in
set_option maxHeartbeats 2000000 in
/-- errors.as at a place: a bare number has none. -/
theorem asp_miss (e : Int) (val tg : Value) (x0 x1 x2 : Value) (w : World) (hval : val = .agg #[x0, x1, x2]) :
    Calls Tryz.prog 48 #[.iface 48 (.int .i64 e), tg, val, .iface 122 (.agg #[.pointer (some ⟨14, 79, none⟩)])] w fun ev w' => ev = .returned (.bool false) ∧ Below w.heap.size w w' := by
  subst hval
  have f1 := typeOf24
  have f3 := methodAssignableTo
  have f4 := assign2436
  have f5 := no86b
  have f6 := no65
  have f7 := no89
  go_enter Tryz.func48, Tryz.ntmps48
  go_wp2_with fail
  refine wp_loop_rounds 1 ?_
  rw [rounds_succ]
  go_wp2
  go_ret
  exact ⟨rfl, (Below.refl _ _).alloc (Nat.le_refl _) _⟩

set_option maxRecDepth 100000 in
set_option maxHeartbeats 2000000 in
/-- errors.As at a place: the error itself is one. -/
theorem as_place (p : Int) (t : TypeId) (x : Value) (N : Nat) (o1 o2 : Value) (w : World) (hN : N < w.heap.size) (hN0 : 7 < w.heap.size) (hg : w.cell? ⟨7, 0, none⟩ = some (.iface 122 (.agg #[.pointer (some ⟨14, 42, none⟩)]))) (hc0 : w.cell? ⟨N, 0, none⟩ = some o1) (hc1 : w.cell? ⟨N, 1, none⟩ = some o2) (hf0 : w.frozen? ⟨N, 0, none⟩ = false) (hf1 : w.frozen? ⟨N, 1, none⟩ = false) :
    Calls Tryz.prog 29 #[.iface 79 (.agg #[.int .i64 p, .iface t x]), .iface 80 (.pointer (some ⟨N, 0, none⟩))] w fun ev w' => ev = .returned (.bool true) ∧ w'.cell? ⟨N, 0, none⟩ = some (.int .i64 p) ∧ Below N w w' := by
  have f1 := valueOf44
  have f2 := type44
  have f3 := methodKind
  have f4 := kind44
  have f5 := methodElem
  have f6 := elem44
  have f7 := kind36
  have f8 := methodImplements
  have f9 := implements36
  have hI := isNil44 ⟨w.heap.size, 0, none⟩ ⟨N, 0, none⟩ ((w.alloc (.cells #[.pointer (some ⟨N, 0, none⟩)] 80)).alloc (.cells #[.pointer (some ⟨14, 80, none⟩), .pointer (some ⟨w.heap.size, 0, none⟩), .int .u64 150] 97)) (by simp)
  have hG : ((w.alloc (.cells #[.pointer (some ⟨N, 0, none⟩)] 80)).alloc (.cells #[.pointer (some ⟨14, 80, none⟩), .pointer (some ⟨w.heap.size, 0, none⟩), .int .u64 150] 97)).cell? ⟨7, 0, none⟩ = some (.iface 122 (.agg #[.pointer (some ⟨14, 42, none⟩)])) := by
    rw [World.cell?_alloc_lt _ _ ⟨7, 0, none⟩ (by simp; omega), World.cell?_alloc_lt _ _ ⟨7, 0, none⟩ hN0]; exact hg
  have hL := asp_hit p t x w.heap.size N o1 o2 ((w.alloc (.cells #[.pointer (some ⟨N, 0, none⟩)] 80)).alloc (.cells #[.pointer (some ⟨14, 80, none⟩), .pointer (some ⟨w.heap.size, 0, none⟩), .int .u64 150] 97)) hN (by simp; omega) (by simp) (by rw [World.cell?_alloc_lt _ _ _ (by simp; omega), World.cell?_alloc_lt _ _ _ hN]; exact hc0) (by rw [World.cell?_alloc_lt _ _ _ (by simp; omega), World.cell?_alloc_lt _ _ _ hN]; exact hc1) (by rw [World.frozen?_alloc_old _ _ _ (by simp; omega), World.frozen?_alloc_old _ _ _ (Nat.ne_of_lt hN)]; exact hf0) (by rw [World.frozen?_alloc_old _ _ _ (by simp; omega), World.frozen?_alloc_old _ _ _ (Nat.ne_of_lt hN)]; exact hf1) (.iface 80 (.pointer (some ⟨N, 0, none⟩)))
  go_enter Tryz.func29, Tryz.ntmps29
  go_wp2_with (go_at_call 48; refine hL.mono ?_; rintro ev w' ⟨rfl, h1, h2⟩)
  go_ret
  exact ⟨rfl, h1, (((Below.refl N w).alloc (Nat.le_of_lt hN) _).alloc (by simp; omega) _).trans h2⟩

set_option maxRecDepth 100000 in
set_option maxHeartbeats 2000000 in
/-- errors.As at a place: a bare number has none. -/
theorem as_noplace (e : Int) (N : Nat) (w : World) (hN0 : 7 < w.heap.size) (hg : w.cell? ⟨7, 0, none⟩ = some (.iface 122 (.agg #[.pointer (some ⟨14, 42, none⟩)]))) :
    Calls Tryz.prog 29 #[.iface 48 (.int .i64 e), .iface 80 (.pointer (some ⟨N, 0, none⟩))] w fun ev w' => ev = .returned (.bool false) ∧ Below w.heap.size w w' := by
  have f1 := valueOf44
  have f2 := type44
  have f3 := methodKind
  have f4 := kind44
  have f5 := methodElem
  have f6 := elem44
  have f7 := kind36
  have f8 := methodImplements
  have f9 := implements36
  have hI := isNil44 ⟨w.heap.size, 0, none⟩ ⟨N, 0, none⟩ ((w.alloc (.cells #[.pointer (some ⟨N, 0, none⟩)] 80)).alloc (.cells #[.pointer (some ⟨14, 80, none⟩), .pointer (some ⟨w.heap.size, 0, none⟩), .int .u64 150] 97)) (by simp)
  have hG : ((w.alloc (.cells #[.pointer (some ⟨N, 0, none⟩)] 80)).alloc (.cells #[.pointer (some ⟨14, 80, none⟩), .pointer (some ⟨w.heap.size, 0, none⟩), .int .u64 150] 97)).cell? ⟨7, 0, none⟩ = some (.iface 122 (.agg #[.pointer (some ⟨14, 42, none⟩)])) := by
    rw [World.cell?_alloc_lt _ _ ⟨7, 0, none⟩ (by simp; omega), World.cell?_alloc_lt _ _ ⟨7, 0, none⟩ hN0]; exact hg
  go_enter Tryz.func29, Tryz.ntmps29
  go_wp2_with (go_at_call 48; refine (asp_miss e _ _ _ _ _ _ rfl).mono ?_; rintro ev w' ⟨rfl, h2⟩)
  go_ret
  exact ⟨rfl, (((Below.refl w.heap.size w).alloc (Nat.le_refl _) _).alloc (by simp) _).trans (h2.mono (by simp; omega))⟩

end Go.Proofs.YtnmmaedngdibeaaGreatDoor.F
