/-
  Contracts: errors.Is and fault.Is, over errors in so many places, at a number.
-/
import Derived.Test.YtojbfdlgjjghjaaGreatDoorFDepth
namespace Go.Proofs.YtojbfdlgjjghjaaGreatDoor.F
open Go.RowKit Go.Extern.Stop Go.Stop Go.Extern

theorem eql_num (a b : Int) (w : World) : (binOp .eql 30 (.iface 25 (.int .i64 a)) (.iface 25 (.int .i64 b))).run Tryz.prog w = .ok (.bool (a == b)) w := by
  have hc : (Tryz.prog.info? 25).map (fun i => i.comparable) = some true := by kernel_rfl
  obtain ⟨i, hi, hcomp⟩ := Option.map_eq_some_iff.1 hc
  have h : ∀ d : Nat, (Op.equalIn (d + 2) 30 (.iface 25 (.int .i64 a)) (.iface 25 (.int .i64 b))).run Tryz.prog w = .ok (a == b) w := fun d => by
    simp [Op.equalIn, run_underlying Tryz.underlying30, run_underlying Tryz.underlying25, typeInfo, hi, hcomp]
  simp only [binOp]
  simp [Op.equal, Op.maxDepth, h 9998]

theorem eql_not (x y : Value) (w : World) : (binOp .eql 30 (.iface 60 x) (.iface 25 y)).run Tryz.prog w = .ok (.bool false) w :=
  run_eql_iface_types 60 25 x y Tryz.underlying30 (by decide) w

theorem no92a (v : Value) (x : TypeId) (w : World) : (Instr.typeAssert (.iface 60 v) x 116 true).run Tryz.prog w = .ok (.tuple #[.nilIface, .bool false]) w := run_typeAssert_lacksB Tryz.underlying116 (by kernel_rfl) (by kernel_rfl) v x w
theorem no92b (v : Value) (x : TypeId) (w : World) : (Instr.typeAssert (.iface 25 v) x 116 true).run Tryz.prog w = .ok (.tuple #[.nilIface, .bool false]) w := run_typeAssert_lacksB Tryz.underlying116 (by kernel_rfl) (by kernel_rfl) v x w
theorem no89 (v : Value) (x : TypeId) (w : World) : (Instr.typeAssert (.iface 25 v) x 111 true).run Tryz.prog w = .ok (.tuple #[.nilIface, .bool false]) w := run_typeAssert_lacksB Tryz.underlying111 (by kernel_rfl) (by kernel_rfl) v x w

set_option maxRecDepth 100000 in
set_option maxHeartbeats 1000000 in
theorem is_loop (l : List Int) (v0 : Value) (e n : Int) (w : World) (hv : Hid (v0 = chain e l)) :
    Calls Tryz.prog 47 #[v0, .iface 25 (.int .i64 n), .bool true] w fun ev w' => ev = .returned (.bool (e == n)) ∧ Below w.heap.size w w' := by
  have f1 := eql_num
  have f2 := eql_not
  have f3 := no92a
  have f4 := no92b
  have f5 := no89
  have f6 := has65
  have f7 := no65
  have f8 := methodUnwrap
  go_enter Tryz.func47, Tryz.ntmps47
  go_wp2_with fail
  go_loopg [0] l.length (fun k v wr => ∃ l : List Int, v = chain e l ∧ l.length = k ∧ Below w.heap.size w wr)
  case atStart => exact ⟨l, hv.out, rfl, Below.refl _ _⟩
  case round =>
    obtain ⟨l, rfl, hk, hb⟩ := hrel
    cases l with
    | nil =>
      simp only [chain]
      by_cases c : e = n
      · have c2 : (e == n) = true := by simpa using c
        go_wp2
        go_ret
        exact ⟨by rw [c2]; rfl, hb⟩
      · have c2 : (e == n) = false := by simpa using c
        go_wp2
        go_ret
        exact ⟨by rw [c2]; rfl, hb⟩
    | cons p l =>
      simp only [chain]
      obtain ⟨t, x, hx⟩ := chain_form e l
      have HX : Hid (chain e l = .iface t x) := hx
      rw [hx]
      clear hx
      go_wp2_with (go_at_call 114; refine (unwrap_at _ _ _).mono ?_; rintro e w' ⟨rfl, rfl⟩)
      go_roundg l.length
      case measure => simp at hk; omega
      case rel => exact ⟨l, HX.out.symm, rfl, hb.alloc hb.size _⟩

theorem typeOf24 (v : Value) (w : World) : (callFunc 46 #[.iface 25 v]).run Tryz.prog w = .ok (.value (.iface 104 (.agg #[.pointer (some ⟨10, 25, none⟩)]))) w := by kernel_rfl
theorem methodComparable (v : Value) (w : World) : (Go.method 286 104 v "Comparable").run Tryz.prog w = .ok (121, v) w := by kernel_rfl
theorem comparable24 (w : World) : (callFunc 121 #[.agg #[.pointer (some ⟨10, 25, none⟩)]]).run Tryz.prog w = .ok (.value (.bool true)) w := by kernel_rfl

set_option maxRecDepth 100000 in
set_option maxHeartbeats 1000000 in
theorem is_some (t : TypeId) (x : Value) (l : List Int) (e n : Int) (w : World) (hv : Hid (.iface t x = chain e l)) :
    Calls Tryz.prog 26 #[.iface t x, .iface 25 (.int .i64 n)] w fun ev w' => ev = .returned (.bool (e == n)) ∧ Below w.heap.size w w' := by
  have f1 := typeOf24
  have f2 := methodComparable
  have f3 := comparable24
  go_enter Tryz.func26, Tryz.ntmps26
  go_wp2_with (go_at_call 47; refine (is_loop l (.iface t x) e n _ hv).mono ?_; rintro ev w' ⟨rfl, hb⟩)
  go_ret
  exact ⟨rfl, hb⟩

theorem eql_nil (y : Value) (w : World) : (binOp .eql 30 .nilIface (.iface 25 y)).run Tryz.prog w = .ok (.bool false) w := run_eql_iface_nil_left w 25 y Tryz.underlying30

set_option maxRecDepth 100000 in
theorem is_nil (n : Int) (w : World) :
    Calls Tryz.prog 26 #[.nilIface, .iface 25 (.int .i64 n)] w fun ev w' => ev = .returned (.bool false) ∧ Below w.heap.size w w' := by
  have f1 := eql_nil
  go_enter Tryz.func26, Tryz.ntmps26
  go_wp2
  go_ret
  exact ⟨rfl, Below.refl _ _⟩

theorem kept_at {w w' : World} {N : Nat} {u : Value} (hb : Below w.heap.size w w') (hN : N < w.heap.size) (hc : w.cell? ⟨N, 0, none⟩ = some u) (hf : w.frozen? ⟨N, 0, none⟩ = false) : w'.cell? ⟨N, 0, none⟩ = some u ∧ w'.frozen? ⟨N, 0, none⟩ = false :=
  ⟨(hb.cell (p := ⟨N, 0, none⟩) hN).trans hc, (hb.frozen (p := ⟨N, 0, none⟩) hN).trans hf⟩

def isIn (e n : Int) : Option (List Int) → Bool
  | none => false
  | some _ => !(n == 0) && (e == n)

set_option maxRecDepth 100000 in
/-- The closure of fault.Is. -/
theorem is1 (o : Option (List Int)) (v : Value) (e n : Int) (M K N : Nat) (w : World) (hN : N < w.heap.size) (hv : Hid (v = link e o)) (h1 : w.cell? ⟨K, 0, none⟩ = some (.int .i64 n)) (h2 : w.cell? ⟨M, 0, none⟩ = some v) (hc : w.cell? ⟨N, 0, none⟩ = some (.bool false)) (hf : w.frozen? ⟨N, 0, none⟩ = false) :
    Calls Tryz.prog 25 #[.pointer (some ⟨K, 0, none⟩), .pointer (some ⟨M, 0, none⟩), .pointer (some ⟨N, 0, none⟩)] w fun ev w' => ev = .returned (.tuple #[]) ∧ (w'.cell? ⟨N, 0, none⟩ = some (.bool (isIn e n o)) ∧ Below N w w') := by
  by_cases c : n = 0
  · subst c
    go_enter Tryz.func25, Tryz.ntmps25
    go_wp2
    go_end0
    exact ⟨rfl, (World.cell?_setCell_same _ _ _ hc).trans (by cases o <;> rfl), (Below.refl N w).setCell (p := ⟨N, 0, none⟩) (Nat.le_refl _) _⟩
  · have c2 : (n == 0) = false := by simpa using c
    have c3 : (n != 0) = true := by simpa using c
    cases o with
    | none =>
      obtain rfl : v = .nilIface := hv
      go_enter Tryz.func25, Tryz.ntmps25
      go_wp2_with (go_at_call 26; refine (is_nil n _).mono ?_; rintro ev w' ⟨rfl, hb⟩; obtain ⟨hcN, hfN⟩ := kept_at hb hN hc hf)
      go_end0
      exact ⟨rfl, (World.cell?_setCell_same _ _ _ hcN).trans rfl, (hb.mono (Nat.le_of_lt hN)).setCell (Nat.le_refl _) _⟩
    | some l =>
      obtain ⟨t, x, hx⟩ := chain_form e l
      obtain rfl : v = .iface t x := Eq.trans hv hx
      go_enter Tryz.func25, Tryz.ntmps25
      go_wp2_with (go_at_call 26; refine (is_some t x l e n _ hx.symm).mono ?_; rintro ev w' ⟨rfl, hb⟩; obtain ⟨hcN, hfN⟩ := kept_at hb hN hc hf)
      go_end0
      exact ⟨rfl, (World.cell?_setCell_same _ _ _ hcN).trans (by simp [isIn, c2]), (hb.mono (Nat.le_of_lt hN)).setCell (Nat.le_refl _) _⟩

theorem is_guard (o : Option (List Int)) (v : Value) (e n : Int) (w : World) (HV : Hid (v = link e o)) :
    Calls Tryz.prog 18 #[.func (Fn.func 25) #[] #[.pointer (some ⟨w.heap.size + 1, 0, none⟩), .pointer (some ⟨w.heap.size, 0, none⟩), .pointer (some ⟨w.heap.size + 1 + 1, 0, none⟩)]] (((w.alloc (.cells #[v] 30)).alloc (.cells #[.int .i64 n] 25)).alloc (.cells #[.bool false] 4)) fun ev w' => ev = .returned (.tuple #[]) ∧ (w'.cell? ⟨w.heap.size + 1 + 1, 0, none⟩ = some (.bool (isIn e n o)) ∧ Below (w.heap.size + 1 + 1) (((w.alloc (.cells #[v] 30)).alloc (.cells #[.int .i64 n] 25)).alloc (.cells #[.bool false] 4)) w') :=
  guard26 _ _ _ (is1 o v e n w.heap.size (w.heap.size + 1) (w.heap.size + 1 + 1) _ (by simp) HV (by rw [World.cell?_alloc_lt _ _ _ (by simp)]; simp) (by rw [World.cell?_alloc_lt _ _ _ (by simp; omega)]; simp) (by rw [World.cell?_alloc_at _ _ _ _ (by simp)]; rfl) (by rw [World.frozen?_alloc_at _ _ _ _ (by simp)]))

theorem below_three {w w' : World} {a b c : Obj} (hb : Below (w.heap.size + 1 + 1) (((w.alloc a).alloc b).alloc c) w') : Below w.heap.size w w' :=
  ((((Below.refl _ _).alloc (Nat.le_refl _) _).alloc (by simp) _).alloc (by simp; omega) _).trans (hb.mono (by omega))

set_option maxRecDepth 100000 in
/-- fault.Is of none, or of an error in so many places. -/
theorem is_any (o : Option (List Int)) (e n : Int) (w : World) :
    Calls Tryz.prog 10 #[link e o, .int .i64 n] w fun ev w' => ev = .returned (.bool (isIn e n o)) ∧ Below w.heap.size w w' := by
  have hmf : ∀ (fn : Fn) (first cap : Array Value) (w : World), (Instr.makeFunc fn first cap).run Tryz.prog w = .ok (.func fn first cap) w := fun _ _ _ _ => rfl
  rcases link_form e o with h | ⟨t, x, h⟩
  · have hg := is_guard o .nilIface e n w h.symm
    rw [h]
    clear h
    go_enter Tryz.func10, Tryz.ntmps10
    go_wp2_with (go_at_call 18; refine hg.mono ?_; rintro ev w' ⟨rfl, hc, hb⟩)
    go_ret
    exact ⟨rfl, below_three hb⟩
  · have hg := is_guard o (.iface t x) e n w h.symm
    rw [h]
    clear h
    go_enter Tryz.func10, Tryz.ntmps10
    go_wp2_with (go_at_call 18; refine hg.mono ?_; rintro ev w' ⟨rfl, hc, hb⟩)
    go_ret
    exact ⟨rfl, below_three hb⟩

end Go.Proofs.YtojbfdlgjjghjaaGreatDoor.F
