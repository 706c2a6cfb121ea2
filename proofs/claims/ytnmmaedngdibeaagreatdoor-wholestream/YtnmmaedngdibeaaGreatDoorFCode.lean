/-
  Contracts: fault.Code, fault.Place, over errors in so many places; fault.Wrap, fault.New.
-/
import Derived.Test.YtnmmaedngdibeaaGreatDoorFAsp
namespace Go.Proofs.YtnmmaedngdibeaaGreatDoor.F
open Go.RowKit Go.Extern.Stop Go.Stop Go.Extern

/-- errors.errorType, as the program's text lays it. -/
def Laid (w : World) : Prop := 7 < w.heap.size ∧ w.cell? ⟨7, 0, none⟩ = some (.iface 122 (.agg #[.pointer (some ⟨14, 42, none⟩)]))

theorem Laid.alloc {w : World} (h : Laid w) (o : Obj) : Laid (w.alloc o) :=
  ⟨by have := h.1; simp; omega, by rw [World.cell?_alloc_lt _ _ ⟨7, 0, none⟩ h.1]; exact h.2⟩

theorem Laid.below {w w' : World} (h : Laid w) (hb : Below w.heap.size w w') : Laid w' :=
  ⟨Nat.lt_of_lt_of_le h.1 hb.size, (hb.cell (p := ⟨7, 0, none⟩) h.1).trans h.2⟩

def codeOf (e : Int) : Option (List Int) → Int
  | none => 0
  | some _ => e
def placeOf : Option (List Int) → Int
  | none => -1
  | some [] => -1
  | some (p :: _) => p

theorem kept_lt {w w' : World} {K N : Nat} {u : Value} (hb : Below N w w') (hK : K < N) (hc : w.cell? ⟨K, 0, none⟩ = some u) (hf : w.frozen? ⟨K, 0, none⟩ = false) : w'.cell? ⟨K, 0, none⟩ = some u ∧ w'.frozen? ⟨K, 0, none⟩ = false :=
  ⟨(hb.cell (p := ⟨K, 0, none⟩) hK).trans hc, (hb.frozen (p := ⟨K, 0, none⟩) hK).trans hf⟩

set_option maxRecDepth 100000 in
theorem code1 (o : Option (List Int)) (v : Value) (e : Int) (M K : Nat) (w : World) (hL : Laid w) (hK : K < w.heap.size) (hM : M < w.heap.size) (hv : Hid (v = link e o)) (h2 : w.cell? ⟨M, 0, none⟩ = some v) (hc : w.cell? ⟨K, 0, none⟩ = some (.int .i64 0)) (hf : w.frozen? ⟨K, 0, none⟩ = false) :
    Calls Tryz.prog 28 #[.pointer (some ⟨M, 0, none⟩), .pointer (some ⟨K, 0, none⟩)] w fun ev w' => ev = .returned (.tuple #[]) ∧ (w'.cell? ⟨K, 0, none⟩ = some (.int .i64 (codeOf e o)) ∧ Below K w w') := by
  have a1 : (w.alloc (.cells #[.int .i64 0] 48)).cell? ⟨K, 0, none⟩ = some (.int .i64 0) := by rw [World.cell?_alloc_lt _ _ _ hK]; exact hc
  have a2 : (w.alloc (.cells #[.int .i64 0] 48)).frozen? ⟨K, 0, none⟩ = false := by rw [World.frozen?_alloc_old _ _ _ (Nat.ne_of_lt hK)]; exact hf
  have a3 : Hid (Below K w (w.alloc (.cells #[.int .i64 0] 48))) := (Below.refl K w).alloc (Nat.le_of_lt hK) _
  cases o with
  | none =>
    obtain rfl : v = .nilIface := hv
    go_enter Tryz.func28, Tryz.ntmps28
    go_wp2_with (go_at_call 29; refine (as_nil _ _).mono ?_; rintro ev w' ⟨rfl, rfl⟩)
    go_end0
    exact ⟨rfl, a1, a3⟩
  | some l =>
    obtain ⟨t, x, hx⟩ := chain_form e l
    obtain rfl : v = .iface t x := Eq.trans hv hx
    have hA := as_num t x l e w.heap.size (.int .i64 0) (w.alloc (.cells #[.int .i64 0] 48)) hx.symm (by simp) (hL.alloc _).1 (hL.alloc _).2 (by simp) (by simp)
    clear hx hv
    go_enter Tryz.func28, Tryz.ntmps28
    go_wp2_with (go_at_call 29; refine hA.mono ?_; rintro ev w' ⟨rfl, q1, q2⟩; obtain ⟨q3, q4⟩ := kept_lt q2 hK a1 a2)
    go_end0
    exact ⟨rfl, World.cell?_setCell_same _ _ _ q3, (a3.out.trans (q2.mono (Nat.le_of_lt hK))).setCell (p := ⟨K, 0, none⟩) (Nat.le_refl _) _⟩

set_option maxRecDepth 100000 in
theorem place1 (o : Option (List Int)) (v : Value) (e : Int) (M K : Nat) (w : World) (hL : Laid w) (hK : K < w.heap.size) (hM : M < w.heap.size) (hv : Hid (v = link e o)) (h2 : w.cell? ⟨M, 0, none⟩ = some v) (hc : w.cell? ⟨K, 0, none⟩ = some (.int .i64 (-1))) (hf : w.frozen? ⟨K, 0, none⟩ = false) :
    Calls Tryz.prog 30 #[.pointer (some ⟨M, 0, none⟩), .pointer (some ⟨K, 0, none⟩)] w fun ev w' => ev = .returned (.tuple #[]) ∧ (w'.cell? ⟨K, 0, none⟩ = some (.int .i64 (placeOf o)) ∧ Below K w w') := by
  have a1 : (w.alloc (.cells #[.int .i64 0, .nilIface] 79)).cell? ⟨K, 0, none⟩ = some (.int .i64 (-1)) := by rw [World.cell?_alloc_lt _ _ _ hK]; exact hc
  have a2 : (w.alloc (.cells #[.int .i64 0, .nilIface] 79)).frozen? ⟨K, 0, none⟩ = false := by rw [World.frozen?_alloc_old _ _ _ (Nat.ne_of_lt hK)]; exact hf
  have a3 : Hid (Below K w (w.alloc (.cells #[.int .i64 0, .nilIface] 79))) := (Below.refl K w).alloc (Nat.le_of_lt hK) _
  cases o with
  | none =>
    obtain rfl : v = .nilIface := hv
    go_enter Tryz.func30, Tryz.ntmps30
    go_wp2_with (go_at_call 29; refine (as_nil _ _).mono ?_; rintro ev w' ⟨rfl, rfl⟩)
    go_end0
    exact ⟨rfl, a1, a3⟩
  | some l =>
    cases l with
    | nil =>
      obtain rfl : v = .iface 48 (.int .i64 e) := hv
      have hA := as_noplace e w.heap.size (w.alloc (.cells #[.int .i64 0, .nilIface] 79)) (hL.alloc _).1 (hL.alloc _).2
      go_enter Tryz.func30, Tryz.ntmps30
      go_wp2_with (go_at_call 29; refine hA.mono ?_; rintro ev w' ⟨rfl, q2⟩)
      go_end0
      exact ⟨rfl, (kept_lt q2 (by simp; omega) a1 a2).1, a3.out.trans (q2.mono (by simp; omega))⟩
    | cons p l =>
      obtain ⟨t, x, hx⟩ := chain_form e l
      obtain rfl : v = .iface 79 (.agg #[.int .i64 p, .iface t x]) := Eq.trans hv (by show Value.iface 79 (.agg #[.int .i64 p, chain e l]) = _; rw [hx])
      have hA := as_place p t x w.heap.size (.int .i64 0) .nilIface (w.alloc (.cells #[.int .i64 0, .nilIface] 79)) (by simp) (hL.alloc _).1 (hL.alloc _).2 (by simp) (by simp) (by simp) (by simp)
      clear hx hv
      go_enter Tryz.func30, Tryz.ntmps30
      go_wp2_with (go_at_call 29; refine hA.mono ?_; rintro ev w' ⟨rfl, q1, q2⟩; obtain ⟨q3, q4⟩ := kept_lt q2 hK a1 a2)
      go_end0
      exact ⟨rfl, World.cell?_setCell_same _ _ _ q3, (a3.out.trans (q2.mono (Nat.le_of_lt hK))).setCell (p := ⟨K, 0, none⟩) (Nat.le_refl _) _⟩

theorem code_guard (o : Option (List Int)) (v : Value) (e : Int) (w : World) (hL : Laid w) (HV : Hid (v = link e o)) :
    Calls Tryz.prog 27 #[.func (Fn.func 28) #[] #[.pointer (some ⟨w.heap.size, 0, none⟩), .pointer (some ⟨w.heap.size + 1, 0, none⟩)]] ((w.alloc (.cells #[v] 42)).alloc (.cells #[.int .i64 0] 48)) fun ev w' => ev = .returned (.tuple #[]) ∧ (w'.cell? ⟨w.heap.size + 1, 0, none⟩ = some (.int .i64 (codeOf e o)) ∧ Below (w.heap.size + 1) ((w.alloc (.cells #[v] 42)).alloc (.cells #[.int .i64 0] 48)) w') :=
  guard20 _ _ _ (code1 o v e w.heap.size (w.heap.size + 1) _ ((hL.alloc _).alloc _) (by simp) (by simp; omega) HV (by simp) (by simp) (by simp))

theorem place_guard (o : Option (List Int)) (v : Value) (e : Int) (w : World) (hL : Laid w) (HV : Hid (v = link e o)) :
    Calls Tryz.prog 27 #[.func (Fn.func 30) #[] #[.pointer (some ⟨w.heap.size, 0, none⟩), .pointer (some ⟨w.heap.size + 1, 0, none⟩)]] ((w.alloc (.cells #[v] 42)).alloc (.cells #[.int .i64 (-1)] 3)) fun ev w' => ev = .returned (.tuple #[]) ∧ (w'.cell? ⟨w.heap.size + 1, 0, none⟩ = some (.int .i64 (placeOf o)) ∧ Below (w.heap.size + 1) ((w.alloc (.cells #[v] 42)).alloc (.cells #[.int .i64 (-1)] 3)) w') :=
  guard22 _ _ _ (place1 o v e w.heap.size (w.heap.size + 1) _ ((hL.alloc _).alloc _) (by simp) (by simp; omega) HV (by simp) (by simp) (by simp))

/-- fault.Code of none, or of an error in so many places. -/
theorem code_any (o : Option (List Int)) (e : Int) (w : World) (hL : Laid w) :
    Calls Tryz.prog 18 #[link e o] w fun ev w' => ev = .returned (.int .i64 (codeOf e o)) ∧ Below w.heap.size w w' := by
  have hmf : ∀ (fn : Fn) (first cap : Array Value) (w : World), (Instr.makeFunc fn first cap).run Tryz.prog w = .ok (.func fn first cap) w := fun _ _ _ _ => rfl
  rcases link_form e o with h | ⟨t, x, h⟩
  · have hg := code_guard o .nilIface e w hL h.symm
    rw [h]
    clear h
    go_enter Tryz.func18, Tryz.ntmps18
    go_wp2_with (go_at_call 27; refine hg.mono ?_; rintro ev w' ⟨rfl, hc, hb⟩)
    go_ret
    exact ⟨rfl, below_two hb⟩
  · have hg := code_guard o (.iface t x) e w hL h.symm
    rw [h]
    clear h
    go_enter Tryz.func18, Tryz.ntmps18
    go_wp2_with (go_at_call 27; refine hg.mono ?_; rintro ev w' ⟨rfl, hc, hb⟩)
    go_ret
    exact ⟨rfl, below_two hb⟩

/-- fault.Place of none, or of an error in so many places. -/
theorem place_any (o : Option (List Int)) (e : Int) (w : World) (hL : Laid w) :
    Calls Tryz.prog 19 #[link e o] w fun ev w' => ev = .returned (.int .i64 (placeOf o)) ∧ Below w.heap.size w w' := by
  have hmf : ∀ (fn : Fn) (first cap : Array Value) (w : World), (Instr.makeFunc fn first cap).run Tryz.prog w = .ok (.func fn first cap) w := fun _ _ _ _ => rfl
  rcases link_form e o with h | ⟨t, x, h⟩
  · have hg := place_guard o .nilIface e w hL h.symm
    rw [h]
    clear h
    go_enter Tryz.func19, Tryz.ntmps19
    go_wp2_with (go_at_call 27; refine hg.mono ?_; rintro ev w' ⟨rfl, hc, hb⟩)
    go_ret
    exact ⟨rfl, below_two hb⟩
  · have hg := place_guard o (.iface t x) e w hL h.symm
    rw [h]
    clear h
    go_enter Tryz.func19, Tryz.ntmps19
    go_wp2_with (go_at_call 27; refine hg.mono ?_; rintro ev w' ⟨rfl, hc, hb⟩)
    go_ret
    exact ⟨rfl, below_two hb⟩

theorem wrap_iface (t : TypeId) (x : Value) (p : Int) (w : World) :
    Calls Tryz.prog 43 #[.iface t x, .int .i64 p] w fun ev w' => ev = .returned (.iface 79 (.agg #[.int .i64 p, .iface t x])) ∧ w = w' := by
  go_enter Tryz.func43, Tryz.ntmps43
  go_wp2
  go_ret
  exact ⟨rfl, rfl⟩

theorem wrap_nil (p : Int) (w : World) : Calls Tryz.prog 43 #[.nilIface, .int .i64 p] w fun ev w' => ev = .returned .nilIface ∧ w = w' := by
  go_enter Tryz.func43, Tryz.ntmps43
  go_wp2
  go_ret
  exact ⟨rfl, rfl⟩

/-- fault.Wrap of an error in so many places: one place more. -/
theorem wrap_any (l : List Int) (e p : Int) (w : World) :
    Calls Tryz.prog 43 #[chain e l, .int .i64 p] w fun ev w' => ev = .returned (chain e (p :: l)) ∧ w = w' := by
  obtain ⟨t, x, hx⟩ := chain_form e l
  have := wrap_iface t x p w
  rw [← hx] at this
  exact this

theorem new_any (e p : Int) (w : World) (h : (e == 0) = false) :
    Calls Tryz.prog 26 #[.int .i64 e, .int .i64 p] w fun ev w' => ev = .returned (chain e [p]) ∧ w = w' := by
  go_enter Tryz.func26, Tryz.ntmps26
  go_wp2_with (go_at_call 43; refine (wrap_iface _ _ _ _).mono ?_; rintro ev w' ⟨rfl, rfl⟩)
  go_ret
  exact ⟨rfl, rfl⟩

theorem new_ok (p : Int) (w : World) : Calls Tryz.prog 26 #[.int .i64 0, .int .i64 p] w fun ev w' => ev = .returned .nilIface ∧ w = w' := by
  go_enter Tryz.func26, Tryz.ntmps26
  go_wp2
  go_ret
  exact ⟨rfl, rfl⟩

end Go.Proofs.YtnmmaedngdibeaaGreatDoor.F
