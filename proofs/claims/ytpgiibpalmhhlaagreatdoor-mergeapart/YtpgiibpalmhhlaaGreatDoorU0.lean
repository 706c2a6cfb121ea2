/-
  Contracts: usage.first (what was counted), bytesOf.
-/
import Derived.Test.YtpgiibpalmhhlaaGreatDoorMT
import Derived.Maps.RangeWalk
import Derived.Maps.OwnSet
import Derived.Maps.Views
namespace Go.Proofs.YtpgiibpalmhhlaaGreatDoor
open Go.RowKit
open Go.Lib hiding intOf
set_option linter.unusedVariables false
set_option linter.unusedSimpArgs false

theorem key3 : Go.Maps.Keyed Tryz.prog 3 := Go.Maps.int_keyed Tryz.underlying3
theorem key_of3 (x : Int) (h : (Lit.int .i64 x).wf = true) : keyOf Tryz.prog 3 (.int .i64 x) = some (.int .i64 x) := by
  simp [keyOf, Tryz.underlying3, mapKey, h]
theorem make85 (w : World) : (Instr.makeMap 80 none).run Tryz.prog w = .ok (.map (some w.heap.size)) (w.alloc (.map #[] 0)) := rfl

/-- how an element of no cells is read -/
def R0 : Value → Option (DataW Unit × List MemPlace)
  | .agg ⟨[]⟩ => some (.agg [], [])
  | _ => none
theorem R0_inv {v : Value} {y : DataW Unit × List MemPlace} (h : R0 v = some y) : v = .agg #[] := by
  unfold R0 at h
  split at h
  · rfl
  · cases h

/-- the numbers that were counted -/
structure Cnt (w : World) (gm n : Nat) (S : List Int) : Prop where
  own : ∃ D : DataW Unit, w.ownsMap Tryz.prog 3 R0 gm n D ∧ Maps.Tidy D ∧ ∀ z : Int, Maps.has D (.int .i64 z) = decide (z ∈ S)

theorem Cnt.made (w : World) : Cnt (w.alloc (.map #[] 0)) w.heap.size 0 [] :=
  ⟨.map [], World.ownsMap_made w _ _ _, Maps.tidy_empty, fun z => by simp [Maps.has]⟩
theorem Cnt.kept {w w' : World} {gm n : Nat} {S : List Int} (h : Cnt w gm n S) {row : Option Nat} (hg : w.grownBy w' row) (hne : some gm ≠ row) : Cnt w' gm n S := by
  obtain ⟨D, h1, h2, h3⟩ := h.own
  exact ⟨D, h1.kept hg hne, h2, h3⟩
theorem Cnt.lt {w : World} {gm n : Nat} {S : List Int} (h : Cnt w gm n S) : gm < w.heap.size := by
  obtain ⟨D, h1, _⟩ := h.own
  exact h1.lt

theorem grown_trans {a b c : World} {row : Option Nat} (h : a.grownBy b row) (k : b.grownBy c row) : a.grownBy c row :=
  ⟨k.os.trans h.os, k.tape.trans h.tape, k.output.trans h.output, Nat.le_trans h.size k.size, fun i hi hn => (k.block i (Nat.lt_of_lt_of_le hi h.size) hn).trans (h.block i hi hn)⟩
theorem grown_below {a b : World} {row : Option Nat} (h : Below a.heap.size a b) : a.grownBy b row := ⟨h.os, h.tape, h.output, h.size, fun i hi _ => h.block i hi⟩

theorem zero109 (w : World) : (zeroValue 101).run Tryz.prog w = .ok (.agg #[]) w := by kernel_rfl

theorem Cnt.look {w : World} {gm n : Nat} {S : List Int} (h : Cnt w gm n S) (z : Int) (hz : (Lit.int .i64 z).wf = true) :
    (Instr.lookup 80 (.map (some gm)) (.int .i64 z) true).run Tryz.prog w = .ok (.tuple #[.agg #[], .bool (decide (z ∈ S))]) w := by
  obtain ⟨D, ⟨es, clock, hb, F, hs, rfl⟩, h2, h3⟩ := h.own
  rcases Maps.fit_look true key3 Tryz.underlying80 (zero109 w) hb F (key_of3 z hz) with ⟨hrun, _, hat⟩ | ⟨e0, y, _, _, hrun, hRv, hat, _⟩
  · rw [hrun, ← h3 z, Maps.has_false_of_atKey hat]; rfl
  · rw [hrun, ← h3 z, Maps.has_true_of_atKey hat, R0_inv hRv]; rfl

theorem Cnt.put {w : World} {gm n : Nat} {S : List Int} (h : Cnt w gm n S) (z : Int) (hz : (Lit.int .i64 z).wf = true) (hn : n < maxLen) :
    ∃ w', (Instr.mapUpdate 80 (.map (some gm)) (.int .i64 z) (.agg #[])).run Tryz.prog w = .ok () w' ∧ Cnt w' gm (n + 1) (z :: S) ∧ w.grownBy w' (some gm) := by
  obtain ⟨D, h1, h2, h3⟩ := h.own
  obtain ⟨w', r1, r2, r3⟩ := h1.update key3 Tryz.underlying80 hn (key_of3 z hz) (val := .agg #[]) (d := .agg []) (ps := []) rfl
  have hk : WideAt.IsKeyLit (.int .i64 z) := trivial
  refine ⟨w', r1, ⟨_, r2, h2.put hk _, fun y => ?_⟩, r3⟩
  by_cases e : y = z
  · subst e
    rw [Maps.has_put_same h2.isMap hk]
    simp
  · have hne : (Lit.int .i64 y) ≠ .int .i64 z := fun x => e (by injection x)
    rw [Maps.has_put_other hne, h3 y]
    simp [e]

set_option maxHeartbeats 1000000 in
theorem first_old {w : World} {gm n : Nat} {S : List Int} (h : Cnt w gm n S) (z : Int) (hz : (Lit.int .i64 z).wf = true) (hm : z ∈ S) :
    Calls Tryz.prog 37 #[.map (some gm), .int .i64 z] w fun e w' => e = .returned (.bool false) ∧ Below w.heap.size w w' := by
  have hl := h.look z hz
  rw [decide_eq_true hm] at hl
  clear h hm hz
  go_enter Tryz.func37, Tryz.ntmps37
  go_wp2_with fail
  go_ret
  exact ⟨rfl, below_box _ _⟩

set_option maxHeartbeats 1000000 in
theorem first_new {w : World} {gm n : Nat} {S : List Int} (h : Cnt w gm n S) (z : Int) (hz : (Lit.int .i64 z).wf = true) (hm : z ∉ S) (hn : n < maxLen) :
    Calls Tryz.prog 37 #[.map (some gm), .int .i64 z] w fun e w' => e = .returned (.bool true) ∧ Cnt w' gm (n + 1) (z :: S) ∧ w.grownBy w' (some gm) := by
  have hl := h.look z hz
  rw [decide_eq_false hm] at hl
  obtain ⟨w2, p1, p2, p3⟩ := (h.kept (World.grownBy_alloc w (.cells #[] 101) none) (by simp)).put z hz hn
  have HC : Hid (Cnt w2 gm (n + 1) (z :: S)) := p2
  have HG : Hid (w.grownBy w2 (some gm)) := grown_trans (World.grownBy_alloc w (.cells #[] 101) (some gm)) p3
  clear h hm hz p2 p3
  go_enter Tryz.func37, Tryz.ntmps37
  go_wp2_with fail
  go_ret
  exact ⟨rfl, HC.out, HG.out⟩

theorem bytes_w (r : Rw) (w : World) : Calls Tryz.prog 38 #[.agg r.cs.toArray] w fun e w' => e = .returned (.int .i64 (if r.kind = 1 then r.size else 0)) ∧ Below w.heap.size w w' := by
  unfold Rw.cs
  by_cases c : r.kind = 1
  · rw [if_pos c]
    go_enter Tryz.func38, Tryz.ntmps38
    go_wp2_with fail
    go_ret
    exact ⟨rfl, below_box _ _⟩
  · rw [if_neg c]
    go_enter Tryz.func38, Tryz.ntmps38
    go_wp2_with fail
    go_ret
    exact ⟨rfl, below_box _ _⟩

end Go.Proofs.YtpgiibpalmhhlaaGreatDoor
