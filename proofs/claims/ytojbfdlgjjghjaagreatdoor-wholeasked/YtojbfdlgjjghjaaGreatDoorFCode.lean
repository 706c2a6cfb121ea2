/-
  Contracts: fault.Code, fault.Place, over errors in so many places; fault.Wrap, fault.New.
-/
import Derived.Test.YtojbfdlgjjghjaaGreatDoorFAsp
namespace Go.Proofs.YtojbfdlgjjghjaaGreatDoor.F
open Go.RowKit Go.Extern.Stop Go.Stop Go.Extern

/-- errors.errorType, as the program's text lays it. -/
def Laid (w : World) : Prop := 1 < w.heap.size ∧ w.cell? ⟨1, 0, none⟩ = some (.iface 104 (.agg #[.pointer (some ⟨10, 30, none⟩)]))

theorem Laid.alloc {w : World} (h : Laid w) (o : Obj) : Laid (w.alloc o) :=
  ⟨by have := h.1; simp; omega, by rw [World.cell?_alloc_lt _ _ ⟨1, 0, none⟩ h.1]; exact h.2⟩

theorem Laid.below {w w' : World} (h : Laid w) (hb : Below w.heap.size w w') : Laid w' :=
  ⟨Nat.lt_of_lt_of_le h.1 hb.size, (hb.cell (p := ⟨1, 0, none⟩) h.1).trans h.2⟩

def codeOf (e : Int) : Option (List Int) → Int
  | none => 0
  | some _ => e
def placeOf : Option (List Int) → Int
  | none => -1
  | some [] => -1
  | some (p :: _) => p

theorem kept_lt {w w' : World} {K N : Nat} {u : Value} (hb : Below N w w') (hK : K < N) (hc : w.cell? ⟨K, 0, none⟩ = some u) (hf : w.frozen? ⟨K, 0, none⟩ = false) : w'.cell? ⟨K, 0, none⟩ = some u ∧ w'.frozen? ⟨K, 0, none⟩ = false :=
  ⟨(hb.cell (p := ⟨K, 0, none⟩) hK).trans hc, (hb.frozen (p := ⟨K, 0, none⟩) hK).trans hf⟩

set_option maxRecDepth 100000 in
theorem code1 (o : Option (List Int)) (v : Value) (e : Int) (M K : Nat) (w : World) (hL : Laid w) (hK : K < w.heap.size) (hM : M < w.heap.size) (hv : Hid (v = link e o)) (h2 : w.cell? ⟨M, 0, none⟩ = some v) (hc : w.cell? ⟨K, 0, none⟩ = some (.int .i64 0)) (hf : w.frozen? ⟨K, 0, none⟩ = false) :
    Calls Tryz.prog 19 #[.pointer (some ⟨M, 0, none⟩), .pointer (some ⟨K, 0, none⟩)] w fun ev w' => ev = .returned (.tuple #[]) ∧ (w'.cell? ⟨K, 0, none⟩ = some (.int .i64 (codeOf e o)) ∧ Below K w w') := by
  have a1 : (w.alloc (.cells #[.int .i64 0] 25)).cell? ⟨K, 0, none⟩ = some (.int .i64 0) := by rw [World.cell?_alloc_lt _ _ _ hK]; exact hc
  have a2 : (w.alloc (.cells #[.int .i64 0] 25)).frozen? ⟨K, 0, none⟩ = false := by rw [World.frozen?_alloc_old _ _ _ (Nat.ne_of_lt hK)]; exact hf
  have a3 : Hid (Below K w (w.alloc (.cells #[.int .i64 0] 25))) := (Below.refl K w).alloc (Nat.le_of_lt hK) _
  cases o with
  | none =>
    obtain rfl : v = .nilIface := hv
    go_enter Tryz.func19, Tryz.ntmps19
    go_wp2_with (go_at_call 20; refine (as_nil _ _).mono ?_; rintro ev w' ⟨rfl, rfl⟩)
    go_end0
    exact ⟨rfl, a1, a3⟩
  | some l =>
    obtain ⟨t, x, hx⟩ := chain_form e l
    obtain rfl : v = .iface t x := Eq.trans hv hx
    have hA := as_num t x l e w.heap.size (.int .i64 0) (w.alloc (.cells #[.int .i64 0] 25)) hx.symm (by simp) (hL.alloc _).1 (hL.alloc _).2 (by simp) (by simp)
    clear hx hv
    go_enter Tryz.func19, Tryz.ntmps19
    go_wp2_with (go_at_call 20; refine hA.mono ?_; rintro ev w' ⟨rfl, q1, q2⟩; obtain ⟨q3, q4⟩ := kept_lt q2 hK a1 a2)
    go_end0
    exact ⟨rfl, World.cell?_setCell_same _ _ _ q3, (a3.out.trans (q2.mono (Nat.le_of_lt hK))).setCell (p := ⟨K, 0, none⟩) (Nat.le_refl _) _⟩

theorem code_guard (o : Option (List Int)) (v : Value) (e : Int) (w : World) (hL : Laid w) (HV : Hid (v = link e o)) :
    Calls Tryz.prog 18 #[.func (Fn.func 19) #[] #[.pointer (some ⟨w.heap.size, 0, none⟩), .pointer (some ⟨w.heap.size + 1, 0, none⟩)]] ((w.alloc (.cells #[v] 30)).alloc (.cells #[.int .i64 0] 25)) fun ev w' => ev = .returned (.tuple #[]) ∧ (w'.cell? ⟨w.heap.size + 1, 0, none⟩ = some (.int .i64 (codeOf e o)) ∧ Below (w.heap.size + 1) ((w.alloc (.cells #[v] 30)).alloc (.cells #[.int .i64 0] 25)) w') :=
  guard20 _ _ _ (code1 o v e w.heap.size (w.heap.size + 1) _ ((hL.alloc _).alloc _) (by simp) (by simp; omega) HV (by simp) (by simp) (by simp))

/-- fault.Code of none, or of an error in so many places. -/
theorem code_any (o : Option (List Int)) (e : Int) (w : World) (hL : Laid w) :
    Calls Tryz.prog 5 #[link e o] w fun ev w' => ev = .returned (.int .i64 (codeOf e o)) ∧ Below w.heap.size w w' := by
  have hmf : ∀ (fn : Fn) (first cap : Array Value) (w : World), (Instr.makeFunc fn first cap).run Tryz.prog w = .ok (.func fn first cap) w := fun _ _ _ _ => rfl
  rcases link_form e o with h | ⟨t, x, h⟩
  · have hg := code_guard o .nilIface e w hL h.symm
    rw [h]
    clear h
    go_enter Tryz.func5, Tryz.ntmps5
    go_wp2_with (go_at_call 18; refine hg.mono ?_; rintro ev w' ⟨rfl, hc, hb⟩)
    go_ret
    exact ⟨rfl, below_two hb⟩
  · have hg := code_guard o (.iface t x) e w hL h.symm
    rw [h]
    clear h
    go_enter Tryz.func5, Tryz.ntmps5
    go_wp2_with (go_at_call 18; refine hg.mono ?_; rintro ev w' ⟨rfl, hc, hb⟩)
    go_ret
    exact ⟨rfl, below_two hb⟩

theorem wrap_iface (t : TypeId) (x : Value) (p : Int) (w : World) :
    Calls Tryz.prog 9 #[.iface t x, .int .i64 p] w fun ev w' => ev = .returned (.iface 60 (.agg #[.int .i64 p, .iface t x])) ∧ w = w' := by
  go_enter Tryz.func9, Tryz.ntmps9
  go_wp2
  go_ret
  exact ⟨rfl, rfl⟩

theorem wrap_nil (p : Int) (w : World) : Calls Tryz.prog 9 #[.nilIface, .int .i64 p] w fun ev w' => ev = .returned .nilIface ∧ w = w' := by
  go_enter Tryz.func9, Tryz.ntmps9
  go_wp2
  go_ret
  exact ⟨rfl, rfl⟩

/-- fault.Wrap of an error in so many places: one place more. -/
theorem wrap_any (l : List Int) (e p : Int) (w : World) :
    Calls Tryz.prog 9 #[chain e l, .int .i64 p] w fun ev w' => ev = .returned (chain e (p :: l)) ∧ w = w' := by
  obtain ⟨t, x, hx⟩ := chain_form e l
  have := wrap_iface t x p w
  rw [← hx] at this
  exact this

theorem new_any (e p : Int) (w : World) (h : (e == 0) = false) :
    Calls Tryz.prog 6 #[.int .i64 e, .int .i64 p] w fun ev w' => ev = .returned (chain e [p]) ∧ w = w' := by
  go_enter Tryz.func6, Tryz.ntmps6
  go_wp2_with (go_at_call 9; refine (wrap_iface _ _ _ _).mono ?_; rintro ev w' ⟨rfl, rfl⟩)
  go_ret
  exact ⟨rfl, rfl⟩

theorem new_ok (p : Int) (w : World) : Calls Tryz.prog 6 #[.int .i64 0, .int .i64 p] w fun ev w' => ev = .returned .nilIface ∧ w = w' := by
  go_enter Tryz.func6, Tryz.ntmps6
  go_wp2
  go_ret
  exact ⟨rfl, rfl⟩

end Go.Proofs.YtojbfdlgjjghjaaGreatDoor.F
