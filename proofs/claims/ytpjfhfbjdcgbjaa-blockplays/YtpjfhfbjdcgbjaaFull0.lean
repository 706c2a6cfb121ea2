/-
  Plain: the blocks that are held are just those that a map has.
-/
import Derived.Test.YtpjfhfbjdcgbjaaIn
import Derived.Maps.RangeWalk
import Derived.Maps.OwnSet
import Derived.Maps.Views
namespace Go.Proofs.Ytpjfhfbjdcgbjaa
open Go.RowKit
set_option linter.unusedVariables false
set_option linter.unusedSimpArgs false

/-- each block is held once, or not at all -/
def Once (ss : List Slot) : Prop := ∀ (i : Nat) (s : Slot), ss[i]? = some s → s.holds = 0 ∨ s.holds = 1

def IsHeld (ss : List Slot) (x : Int) : Prop := ∃ (i : Nat) (s : Slot), x = (i : Int) ∧ ss[i]? = some s ∧ s.holds = 1

def MapIs (D : DataW Unit) (ss : List Slot) : Prop := ∀ x : Int, Maps.has D (.int .i64 x) = true ↔ IsHeld ss x

theorem once_set {ss : List Slot} (h : Once ss) (i : Nat) (t : Slot) (ht : t.holds = 0 ∨ t.holds = 1) : Once (ss.set i t) := by
  intro j s hj
  rw [set_get] at hj
  split at hj
  · cases hj; exact ht
  · exact h j s hj

theorem held_set_other {ss : List Slot} {i : Nat} {t : Slot} {x : Int} (hx : x ≠ (i : Int)) : IsHeld (ss.set i t) x ↔ IsHeld ss x := by
  constructor
  · rintro ⟨j, s, rfl, hj, hs⟩
    rw [set_get] at hj
    split at hj
    · rename_i c; exact absurd (by rw [c.1]) hx
    · exact ⟨j, s, rfl, hj, hs⟩
  · rintro ⟨j, s, rfl, hj, hs⟩
    refine ⟨j, s, rfl, ?_, hs⟩
    rw [set_get, if_neg]
    · exact hj
    · rintro ⟨rfl, _⟩; exact hx rfl

theorem held_set_same {ss : List Slot} {i : Nat} {t : Slot} (hi : i < ss.length) (ht : t.holds = 1) : IsHeld (ss.set i t) (i : Int) :=
  ⟨i, t, rfl, by rw [set_get, if_pos ⟨rfl, hi⟩], ht⟩

theorem gone_set_same {ss : List Slot} {i : Nat} {t : Slot} (hi : i < ss.length) (ht : t.holds = 0) : ¬ IsHeld (ss.set i t) (i : Int) := by
  rintro ⟨j, s, e, hj, hs⟩
  obtain rfl : i = j := by omega
  rw [set_get, if_pos ⟨rfl, hi⟩] at hj
  cases hj
  omega

theorem MapIs.put {D : DataW Unit} {ss : List Slot} (h : MapIs D ss) (hD : Maps.IsMap D) {i : Nat} {t : Slot} (hi : i < ss.length) (ht : t.holds = 1) (d : DataW Unit) : MapIs (D.put (.int .i64 (i : Int)) d) (ss.set i t) := by
  intro x
  by_cases c : x = (i : Int)
  · subst c
    exact ⟨fun _ => held_set_same hi ht, fun _ => Maps.has_put_same hD (show WideAt.IsKeyLit (.int .i64 (i : Int)) from trivial) d⟩
  · have hne : (Lit.int .i64 x) ≠ .int .i64 (i : Int) := fun e => c (by injection e)
    rw [Maps.has_put_other hne, h x, held_set_other c]

theorem mapIs_nil {ss : List Slot} (h : ∀ (i : Nat) (s : Slot), ss[i]? = some s → s.holds = 0) : MapIs (.map []) ss := by
  intro x
  constructor
  · intro hx; simp [Maps.has] at hx
  · rintro ⟨i, s, _, hi, hs⟩
    have := h i s hi
    omega

/-- all free: none is held -/
theorem all_free {ss : List Slot} {fr : List Nat} (g : Good ss fr) (h : fr.length = ss.length) : ∀ (i : Nat) (s : Slot), ss[i]? = some s → s.holds = 0 := by
  intro i s hi
  by_cases c : s.holds = 0
  · exact c
  · exact absurd (g.room hi c) (by omega)

/-- none is held: all free -/
theorem free_all {ss : List Slot} {fr : List Nat} (g : Good ss fr) (h : ∀ (i : Nat) (s : Slot), ss[i]? = some s → s.holds = 0) : fr.length = ss.length := by
  have h1 := g.le
  have h2 : ss.length ≤ fr.length := by
    have hsub : ∀ x ∈ List.range ss.length, x ∈ fr := by
      intro x hx
      have hx' : x < ss.length := List.mem_range.1 hx
      exact (g.isFree x).2 ⟨ss[x], by simp [hx'], h x _ (by simp [hx'])⟩
    have := List.Nodup.length_le_of_subset (List.nodup_range) hsub
    simpa using this
  omega

theorem key3 : Go.Maps.Keyed Try.prog 3 := Go.Maps.int_keyed Try.underlying3

theorem ranges_moved {P : Program} {k : TypeId} {R : Value → Option (DataW Unit × List MemPlace)} {w w' : World} {b r n : Nat} {D : DataW Unit} {left : Lit → Bool} {cnt : Nat} (h : w.ranges P k R b r n D left cnt) (h1 : w'.heap[b]? = w.heap[b]?) (h2 : w'.heap[r]? = w.heap[r]?) : w'.ranges P k R b r n D left cnt := by
  obtain ⟨es, clock, since, seen, c0, hb, F, hs, hD, hr, q⟩ := h
  exact ⟨es, clock, since, seen, c0, h1.trans hb, F, hs, hD, h2.trans hr, q⟩

theorem owns_moved {P : Program} {k : TypeId} {R : Value → Option (DataW Unit × List MemPlace)} {w w' : World} {b n : Nat} {D : DataW Unit} (h : w.ownsMap P k R b n D) (h1 : w'.heap[b]? = w.heap[b]?) : w'.ownsMap P k R b n D := by
  obtain ⟨es, clock, hb, q⟩ := h
  exact ⟨es, clock, h1.trans hb, q⟩

end Go.Proofs.Ytpjfhfbjdcgbjaa
