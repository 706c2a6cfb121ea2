/-
  Contracts: errors.As over errors in so many places, at a number and at a place.
-/
import Derived.Test.YtnmmaedngdibeaaGreatDoorFSet
namespace Go.Proofs.YtnmmaedngdibeaaGreatDoor.F
open Go.RowKit Go.Extern.Stop Go.Stop Go.Extern

set_option maxRecDepth 100000 in
set_option maxHeartbeats 2000000 in
/-- errors.as at a number: found at the bottom, set. 'a': the Value's own variable, which holds the target's address. -/
theorem as_loop (l : List Int) (v0 : Value) (e : Int) (a N : Nat) (old : Value) (w : World) (hv : Hid (v0 = chain e l)) (hN : N < a) (ha : a < w.heap.size) (hA : w.cell? ⟨a, 0, none⟩ = some (.pointer (some ⟨N, 0, none⟩))) (hc : w.cell? ⟨N, 0, none⟩ = some old) (hf : w.frozen? ⟨N, 0, none⟩ = false) (tg : Value) :
    Calls Tryz.prog 48 #[v0, tg, .agg #[.pointer (some ⟨14, 77, none⟩), .pointer (some ⟨a, 0, none⟩), .int .u64 150], .iface 122 (.agg #[.pointer (some ⟨14, 48, none⟩)])] w fun ev w' => ev = .returned (.bool true) ∧ w'.cell? ⟨N, 0, none⟩ = some (.int .i64 e) ∧ Below N w w' := by
  have f1 := typeOf24
  have f2 := typeOf36
  have f3 := methodAssignableTo
  have f4 := assign2424
  have f5 := assign3624
  have f6 := no86a
  have f7 := has65
  have f8 := methodUnwrap
  have f9 := valueOf24
  go_enter Tryz.func48, Tryz.ntmps48
  go_wp2_with fail
  go_loopg [0] l.length (fun k v wr => ∃ l : List Int, v = chain e l ∧ l.length = k ∧ Below (w.heap.size + 1) (w.alloc (.cells #[.pointer (some ⟨14, 77, none⟩), .pointer (some ⟨a, 0, none⟩), .int .u64 150] 97)) wr)
  case atStart => exact ⟨l, hv.out, rfl, Below.refl _ _⟩
  case round =>
    obtain ⟨l, rfl, hk, hb⟩ := hrel
    have hsz : w.heap.size + 1 ≤ wr.heap.size := by have := hb.size; simpa using this
    cases l with
    | nil =>
      simp only [chain]
      have hold : ∀ i (hi : i < w.heap.size) o, wr.cell? ⟨i, o, none⟩ = w.cell? ⟨i, o, none⟩ := fun i hi o => (hb.cell (p := ⟨i, o, none⟩) (by show i < _; omega)).trans (World.cell?_alloc_lt _ _ _ hi)
      have hB0 : wr.cell? ⟨w.heap.size, 0, none⟩ = some (.pointer (some ⟨14, 77, none⟩)) := by rw [hb.cell (p := ⟨w.heap.size, 0, none⟩) (by simp)]; simp
      have hB1 : wr.cell? ⟨w.heap.size, 1, none⟩ = some (.pointer (some ⟨a, 0, none⟩)) := by rw [hb.cell (p := ⟨w.heap.size, 1, none⟩) (by simp)]; simp
      have hB2 : wr.cell? ⟨w.heap.size, 2, none⟩ = some (.int .u64 150) := by rw [hb.cell (p := ⟨w.heap.size, 2, none⟩) (by simp)]; simp
      have hE := elemV43 ⟨a, 0, none⟩ ⟨N, 0, none⟩ wr ((hold a ha 0).trans hA)
      have hNc : wr.cell? ⟨N, 0, none⟩ = some old := (hold N (by omega) 0).trans hc
      have hNf : wr.frozen? ⟨N, 0, none⟩ = false := ((hb.frozen (p := ⟨N, 0, none⟩) (by show N < _; omega)).trans (World.frozen?_alloc_old _ _ _ (by show N ≠ _; omega))).trans hf
      have hS := set24 ⟨N, 0, none⟩ ⟨wr.heap.size, 0, none⟩ e old (wr.alloc (.cells #[.int .i64 e] 48)) (by simp) (by rw [World.cell?_alloc_lt _ _ _ (by show N < _; omega)]; exact hNc) (by rw [World.frozen?_alloc_old _ _ _ (by show N ≠ _; omega)]; exact hNf)
      have HF : Hid (Below N w ((wr.alloc (.cells #[.int .i64 e] 48)).setCell ⟨N, 0, none⟩ (.int .i64 e)) ∧ ((wr.alloc (.cells #[.int .i64 e] 48)).setCell ⟨N, 0, none⟩ (.int .i64 e)).cell? ⟨N, 0, none⟩ = some (.int .i64 e)) := by
        refine ⟨((((Below.refl N w).alloc (by omega) _).trans (hb.mono (by omega))).alloc (by omega) _).setCell (p := ⟨N, 0, none⟩) (Nat.le_refl _) _, World.cell?_setCell_same _ _ _ (u := old) ?_⟩
        rw [World.cell?_alloc_lt _ _ _ (by show N < _; omega)]; exact hNc
      clear hold hNc hNf
      go_wp2
      go_ret
      exact ⟨rfl, HF.out.2, HF.out.1⟩
    | cons p l =>
      simp only [chain]
      obtain ⟨t, x, hx⟩ := chain_form e l
      have HX : Hid (chain e l = .iface t x) := hx
      rw [hx]
      clear hx
      go_wp2_with (go_at_call 165; refine (unwrap_at _ _ _).mono ?_; rintro e w' ⟨rfl, rfl⟩)
      go_roundg l.length
      case measure => simp at hk; omega
      case rel => exact ⟨l, HX.out.symm, rfl, hb.alloc hsz _⟩
theorem as_nil (t : Value) (w : World) : Calls Tryz.prog 29 #[.nilIface, t] w fun e w' => e = .returned (.bool false) ∧ w = w' := by
  go_enter Tryz.func29, Tryz.ntmps29
  go_wp2
  go_ret
  exact ⟨rfl, rfl⟩

set_option maxRecDepth 100000 in
set_option maxHeartbeats 2000000 in
/-- errors.As at a number. -/
theorem as_num (t : TypeId) (x : Value) (l : List Int) (e : Int) (N : Nat) (old : Value) (w : World) (hv : Hid (.iface t x = chain e l)) (hN : N < w.heap.size) (hN0 : 7 < w.heap.size) (hg : w.cell? ⟨7, 0, none⟩ = some (.iface 122 (.agg #[.pointer (some ⟨14, 42, none⟩)]))) (hc : w.cell? ⟨N, 0, none⟩ = some old) (hf : w.frozen? ⟨N, 0, none⟩ = false) :
    Calls Tryz.prog 29 #[.iface t x, .iface 77 (.pointer (some ⟨N, 0, none⟩))] w fun ev w' => ev = .returned (.bool true) ∧ w'.cell? ⟨N, 0, none⟩ = some (.int .i64 e) ∧ Below N w w' := by
  have f1 := valueOf43
  have f2 := type43
  have f3 := methodKind
  have f4 := kind43
  have f5 := methodElem
  have f6 := elem43
  have f7 := kind24
  have f8 := methodImplements
  have f9 := implements24
  have hI := isNil43 ⟨w.heap.size, 0, none⟩ ⟨N, 0, none⟩ ((w.alloc (.cells #[.pointer (some ⟨N, 0, none⟩)] 77)).alloc (.cells #[.pointer (some ⟨14, 77, none⟩), .pointer (some ⟨w.heap.size, 0, none⟩), .int .u64 150] 97)) (by simp)
  have hG : ((w.alloc (.cells #[.pointer (some ⟨N, 0, none⟩)] 77)).alloc (.cells #[.pointer (some ⟨14, 77, none⟩), .pointer (some ⟨w.heap.size, 0, none⟩), .int .u64 150] 97)).cell? ⟨7, 0, none⟩ = some (.iface 122 (.agg #[.pointer (some ⟨14, 42, none⟩)])) := by
    rw [World.cell?_alloc_lt _ _ ⟨7, 0, none⟩ (by simp; omega), World.cell?_alloc_lt _ _ ⟨7, 0, none⟩ hN0]; exact hg
  have hL := as_loop l (.iface t x) e w.heap.size N old ((w.alloc (.cells #[.pointer (some ⟨N, 0, none⟩)] 77)).alloc (.cells #[.pointer (some ⟨14, 77, none⟩), .pointer (some ⟨w.heap.size, 0, none⟩), .int .u64 150] 97)) hv hN (by simp; omega) (by simp) (by rw [World.cell?_alloc_lt _ _ _ (by simp; omega), World.cell?_alloc_lt _ _ _ hN]; exact hc) (by rw [World.frozen?_alloc_old _ _ _ (by simp; omega), World.frozen?_alloc_old _ _ _ (Nat.ne_of_lt hN)]; exact hf) (.iface 77 (.pointer (some ⟨N, 0, none⟩)))
  go_enter Tryz.func29, Tryz.ntmps29
  go_wp2_with (go_at_call 48; refine hL.mono ?_; rintro ev w' ⟨rfl, h1, h2⟩)
  go_ret
  exact ⟨rfl, h1, (((Below.refl N w).alloc (Nat.le_of_lt hN) _).alloc (by simp; omega) _).trans h2⟩

end Go.Proofs.YtnmmaedngdibeaaGreatDoor.F
