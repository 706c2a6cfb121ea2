/-
  Contracts: errors.Unwrap, fault.hasPlace, fault.Depth, over errors in so many places.
-/
import Derived.Test.YtojbfdlgjjghjaaGreatDoorFGuard
import Derived.Deep.LoopGhost
import Derived.WalkLawsBesides
namespace Go.Proofs.YtojbfdlgjjghjaaGreatDoor.F
open Go.RowKit

theorem has65 (v : Value) (x : TypeId) (w : World) : (Instr.typeAssert (.iface 60 v) x 93 true).run Tryz.prog w = .ok (.tuple #[.iface 60 v, .bool true]) w := run_typeAssert_hasB Tryz.underlying93 (by kernel_rfl) v x w
theorem no65 (v : Value) (x : TypeId) (w : World) : (Instr.typeAssert (.iface 25 v) x 93 true).run Tryz.prog w = .ok (.tuple #[.nilIface, .bool false]) w := run_typeAssert_lacksB Tryz.underlying93 (by kernel_rfl) (by kernel_rfl) v x w
theorem is36 (p : Int) (v : Value) (x : TypeId) (w : World) : (Instr.typeAssert (.iface 60 (.agg #[.int .i64 p, v])) x 60 true).run Tryz.prog w = .ok (.tuple #[.agg #[.int .i64 p, v], .bool true]) w := by kernel_rfl
theorem not36 (e : Int) (x : TypeId) (w : World) : (Instr.typeAssert (.iface 25 (.int .i64 e)) x 60 true).run Tryz.prog w = .ok (.tuple #[.agg #[.int .i64 0, .nilIface], .bool false]) w := by kernel_rfl
theorem methodUnwrap (v : Value) (w : World) : (Go.method 286 60 v "Unwrap").run Tryz.prog w = .ok (114, v) w := by kernel_rfl

theorem unwrap_at (p : Int) (v : Value) (w : World) : Calls Tryz.prog 114 #[.agg #[.int .i64 p, v]] w fun e w' => e = .returned v ∧ w' = w.alloc (.cells #[.int .i64 p, v] 60) := by
  go_enter Tryz.func114, Tryz.ntmps114
  go_wp2
  go_ret
  exact ⟨rfl, rfl⟩

set_option maxRecDepth 100000 in
theorem unwrap_place (p : Int) (v : Value) (w : World) : Calls Tryz.prog 28 #[.iface 60 (.agg #[.int .i64 p, v])] w fun e w' => e = .returned v ∧ w' = w.alloc (.cells #[.int .i64 p, v] 60) := by
  have h := has65
  have m := methodUnwrap
  go_enter Tryz.func28, Tryz.ntmps28
  go_wp2_with (go_at_call 114; refine (unwrap_at _ _ _).mono ?_; rintro e w' ⟨rfl, rfl⟩)
  go_ret
  exact ⟨rfl, rfl⟩

theorem unwrap_none (v : Value) (w : World) : Calls Tryz.prog 28 #[.iface 25 v] w fun e w' => e = .returned .nilIface ∧ w' = w := by
  have h := no65
  go_enter Tryz.func28, Tryz.ntmps28
  go_wp2
  go_ret
  exact ⟨rfl, rfl⟩

theorem chain_form (e : Int) (l : List Int) : ∃ t x, chain e l = .iface t x := by
  cases l with
  | nil => exact ⟨_, _, rfl⟩
  | cons p l => exact ⟨_, _, rfl⟩

theorem place_yes (p : Int) (t : TypeId) (x : Value) (w : World) : Calls Tryz.prog 29 #[.iface 60 (.agg #[.int .i64 p, .iface t x])] w fun e w' => e = .returned (.bool true) ∧ w' = w.alloc (.cells #[.int .i64 p, .iface t x] 60) := by
  have h := is36
  go_enter Tryz.func29, Tryz.ntmps29
  go_wp2
  go_ret
  exact ⟨rfl, rfl⟩

theorem place_no (n : Int) (w : World) : Calls Tryz.prog 29 #[.iface 25 (.int .i64 n)] w fun e w' => e = .returned (.bool false) ∧ w' = w.alloc (.cells #[.int .i64 0, .nilIface] 60) := by
  have h := not36
  go_enter Tryz.func29, Tryz.ntmps29
  go_wp2
  go_ret
  exact ⟨rfl, rfl⟩

def link (e : Int) : Option (List Int) → Value
  | none => .nilIface
  | some l => chain e l
def rem : Option (List Int) → Nat
  | none => 0
  | some l => l.length + 1
def left : Option (List Int) → Nat
  | none => 0
  | some l => l.length

theorem count_more {N : Nat} {w wr : World} {u : Value} (hb : Below N w wr) (hN : N < wr.heap.size) (hc : wr.cell? ⟨N, 0, none⟩ = some u) (hf : wr.frozen? ⟨N, 0, none⟩ = false) (v : Value) (o : Obj) :
    (((wr.setCell ⟨N, 0, none⟩ v).alloc o).alloc o).cell? ⟨N, 0, none⟩ = some v ∧ (((wr.setCell ⟨N, 0, none⟩ v).alloc o).alloc o).frozen? ⟨N, 0, none⟩ = false ∧ Below N w (((wr.setCell ⟨N, 0, none⟩ v).alloc o).alloc o) ∧ N < (((wr.setCell ⟨N, 0, none⟩ v).alloc o).alloc o).heap.size := by
  have hs : (wr.setCell ⟨N, 0, none⟩ v).heap.size = wr.heap.size := by simp
  refine ⟨?_, ?_, ((hb.setCell (Nat.le_refl _) _).alloc (by rw [hs]; omega) _).alloc (by simp; omega) _, by simp; omega⟩
  · rw [World.cell?_alloc_lt _ _ _ (by simp; omega), World.cell?_alloc_lt _ _ _ (by rw [hs]; exact hN), World.cell?_setCell_same _ _ _ hc]
  · rw [World.frozen?_alloc_old _ _ _ (by simp; omega), World.frozen?_alloc_old _ _ _ (by rw [hs]; exact Nat.ne_of_lt hN)]
    simpa using hf

set_option maxRecDepth 100000 in
set_option maxHeartbeats 1000000 in
theorem depth1 (o0 : Option (List Int)) (v0 : Value) (e : Int) (M N : Nat) (w : World) (hl : left o0 ≤ 1000) (hN : N < w.heap.size) (hv0 : Hid (v0 = link e o0)) (he : w.cell? ⟨M, 0, none⟩ = some v0) (hc : w.cell? ⟨N, 0, none⟩ = some (.int .i64 0)) (hf : w.frozen? ⟨N, 0, none⟩ = false) :
    Calls Tryz.prog 27 #[.pointer (some ⟨M, 0, none⟩), .pointer (some ⟨N, 0, none⟩)] w fun ev w' => ev = .returned (.tuple #[]) ∧ (w'.cell? ⟨N, 0, none⟩ = some (.int .i64 (left o0)) ∧ Below N w w') := by
  go_enter Tryz.func27, Tryz.ntmps27
  go_wp2_with fail
  go_loopg [2] (rem o0) (fun k v wr => ∃ o : Option (List Int), v = link e o ∧ rem o = k ∧ left o ≤ left o0 ∧ wr.cell? ⟨N, 0, none⟩ = some (.int .i64 ((left o0 - left o : Nat) : Int)) ∧ wr.frozen? ⟨N, 0, none⟩ = false ∧ Below N w wr ∧ N < wr.heap.size)
  case atStart => exact ⟨o0, hv0.out, rfl, Nat.le_refl _, by simpa using hc, hf, Below.refl _ _, hN⟩
  case round =>
    obtain ⟨o, rfl, hk, hle, hcr, hfr, hb, hNr⟩ := hrel
    cases o with
    | none =>
      simp only [link]
      go_wp2
      go_end0
      exact ⟨rfl, by simpa [left] using hcr, hb⟩
    | some l =>
      cases l with
      | nil =>
        simp only [link, chain]
        go_wp2_with (first | (go_at_call 29; refine (place_no _ _).mono ?_; rintro e w' ⟨rfl, rfl⟩) | (go_at_call 28; refine (unwrap_none _ _).mono ?_; rintro e w' ⟨rfl, rfl⟩))
        go_roundg 0
        case measure => simp [rem] at hk; omega
        case rel => exact ⟨none, rfl, rfl, Nat.zero_le _, by rw [World.cell?_alloc_lt _ _ _ hNr]; exact hcr, by rw [World.frozen?_alloc_old _ _ _ (Nat.ne_of_lt hNr)]; exact hfr, hb.alloc (Nat.le_of_lt hNr) _, by simp; omega⟩
      | cons p l =>
        simp only [link, chain]
        obtain ⟨t, x, hx⟩ := chain_form e l
        have HX : Hid (chain e l = .iface t x) := hx
        rw [hx]
        clear hx
        replace hle : l.length + 1 ≤ left o0 := hle
        replace hcr : wr.cell? ⟨N, 0, none⟩ = some (.int .i64 ((left o0 - (l.length + 1) : Nat) : Int)) := hcr
        have hsc : (wr.alloc (.cells #[.int .i64 p, .iface t x] 60)).cell? ⟨N, 0, none⟩ = some (.int .i64 ((left o0 - (l.length + 1) : Nat) : Int)) := by rw [World.cell?_alloc_lt _ _ _ hNr]; exact hcr
        go_wp2_with (first | (go_at_call 29; refine (place_yes _ _ _ _).mono ?_; rintro e w' ⟨rfl, rfl⟩) | (go_at_call 28; refine (unwrap_place _ _ _).mono ?_; rintro e w' ⟨rfl, rfl⟩))
        obtain ⟨q1, q2, q3, q4⟩ := count_more hb hNr hcr hfr (.int .i64 (((left o0 - (l.length + 1) : Nat) : Int) + 1)) (.cells #[.int .i64 p, .iface t x] 60)
        clear hsc
        go_roundg (l.length + 1)
        case measure => simp [rem] at hk; omega
        case rel => exact ⟨some l, HX.out.symm, rfl, by show l.length ≤ _; omega, by rw [q1]; congr 2; show _ = ((left o0 - l.length : Nat) : Int); omega, q2, q3, q4⟩

theorem link_form (e : Int) (o : Option (List Int)) : link e o = .nilIface ∨ ∃ t x, link e o = .iface t x := by
  cases o with
  | none => exact .inl rfl
  | some l => exact .inr (chain_form e l)

theorem depth_guard (o : Option (List Int)) (v : Value) (e : Int) (w : World) (hl : left o ≤ 1000) (HV : Hid (v = link e o)) :
    Calls Tryz.prog 18 #[.func (Fn.func 27) #[] #[.pointer (some ⟨w.heap.size, 0, none⟩), .pointer (some ⟨w.heap.size + 1, 0, none⟩)]] ((w.alloc (.cells #[v] 30)).alloc (.cells #[.int .i64 0] 3)) fun ev w' => ev = .returned (.tuple #[]) ∧ (w'.cell? ⟨w.heap.size + 1, 0, none⟩ = some (.int .i64 (left o)) ∧ Below (w.heap.size + 1) ((w.alloc (.cells #[v] 30)).alloc (.cells #[.int .i64 0] 3)) w') :=
  guard23 _ _ _ (depth1 o v e w.heap.size (w.heap.size + 1) _ hl (by simp) HV (by simp) (by simp) (by simp))

theorem below_two {w w' : World} {a b : Obj} (hb : Below (w.heap.size + 1) ((w.alloc a).alloc b) w') : Below w.heap.size w w' :=
  (((Below.refl _ _).alloc (Nat.le_refl _) _).alloc (by simp) _).trans (hb.mono (by omega))

/-- fault.Depth of none, or of an error in so many places. -/
theorem depth_any (o : Option (List Int)) (e : Int) (w : World) (hl : left o ≤ 1000) :
    Calls Tryz.prog 11 #[link e o] w fun ev w' => ev = .returned (.int .i64 (left o)) ∧ Below w.heap.size w w' := by
  have hmf : ∀ (fn : Fn) (first cap : Array Value) (w : World), (Instr.makeFunc fn first cap).run Tryz.prog w = .ok (.func fn first cap) w := fun _ _ _ _ => rfl
  rcases link_form e o with h | ⟨t, x, h⟩
  · have hg := depth_guard o .nilIface e w hl h.symm
    rw [h]
    clear h
    go_enter Tryz.func11, Tryz.ntmps11
    go_wp2_with (go_at_call 18; refine hg.mono ?_; rintro ev w' ⟨rfl, hc, hb⟩)
    go_ret
    exact ⟨rfl, below_two hb⟩
  · have hg := depth_guard o (.iface t x) e w hl h.symm
    rw [h]
    clear h
    go_enter Tryz.func11, Tryz.ntmps11
    go_wp2_with (go_at_call 18; refine hg.mono ?_; rintro ev w' ⟨rfl, hc, hb⟩)
    go_ret
    exact ⟨rfl, below_two hb⟩

end Go.Proofs.YtojbfdlgjjghjaaGreatDoor.F
