/-
  Plain: a content that is dropped; contract: extent.Drop of one whose first block is not held.
-/
import Derived.Test.YtpjfhfbjdcgbjabReadBad
namespace Go.Proofs.Ytpjfhfbjdcgbjab
open Go.RowKit
set_option linter.unusedVariables false
set_option linter.unusedSimpArgs false

def dropped (s : Slot) (c : Nat) : Slot := if c = 0 then s else if s.holds = c then Slot.none else ⟨s.bytes, s.holds - c⟩

theorem drop1_get (ss : List Slot) (fr : List Nat) (j i : Nat) (s : Slot) (hs : ss[j]? = some s) (h0 : s.holds ≠ 0) : (drop1 ss fr j).1[i]? = if i = j then some (dropped s 1) else ss[i]? := by
  unfold drop1 dropped
  rw [hs]
  have hl := lt_of_some hs
  by_cases c : s.holds = 1
  · simp only [c, if_true]
    rw [set_get]
    by_cases e : i = j
    · rw [if_pos ⟨e, hl⟩, if_pos e]; simp
    · rw [if_neg (fun x => e x.1), if_neg e]
  · simp only [c, if_false]
    rw [set_get]
    by_cases e : i = j
    · rw [if_pos ⟨e, hl⟩, if_pos e]; simp
    · rw [if_neg (fun x => e x.1), if_neg e]

theorem dropped_more (s : Slot) (c : Nat) (h : c + 1 ≤ s.holds) : dropped (dropped s 1) c = dropped s (c + 1) := by
  unfold dropped
  by_cases e : s.holds = 1
  · have : c = 0 := by omega
    subst this
    simp [e]
  · by_cases c0 : c = 0
    · subst c0; simp [e]
    · simp only [Nat.one_ne_zero, if_false, e, c0, Nat.add_one_ne_zero]
      by_cases e2 : s.holds = c + 1
      · rw [if_pos (by omega), if_pos e2]
      · rw [if_neg (by omega), if_neg e2]
        congr 1
        omega

theorem dropF_get : ∀ (ns : List Nat) (ss : List Slot) (fr : List Nat), (∀ i, ns.count i = 0 ∨ ∃ s, ss[i]? = some s ∧ ns.count i ≤ s.holds) →
    CanDrop ss fr ns ∧ ∀ i, (dropF ss fr ns).1[i]? = (ss[i]?).map fun s => dropped s (ns.count i)
  | [], ss, fr, _ => ⟨trivial, fun i => by simp [dropF, dropped]⟩
  | j :: r, ss, fr, h => by
    have hj : ∃ s, ss[j]? = some s ∧ s.holds ≠ 0 := by
      rcases h j with h1 | ⟨s, hs, hc⟩
      · simp [List.count_cons] at h1
      · simp [List.count_cons] at hc; exact ⟨s, hs, by omega⟩
    obtain ⟨s, hs, h0⟩ := hj
    have get := fun i => drop1_get ss fr j i s hs h0
    have hjc : r.count j + 1 ≤ s.holds := by
      rcases h j with h1 | ⟨s', hs', hc⟩
      · simp [List.count_cons] at h1
      · rw [hs] at hs'; cases hs'; simpa [List.count_cons] using hc
    have hnext : ∀ i, r.count i = 0 ∨ ∃ t, (drop1 ss fr j).1[i]? = some t ∧ r.count i ≤ t.holds := by
      intro i
      by_cases e : i = j
      · subst e
        by_cases c0 : r.count i = 0
        · exact .inl c0
        · refine .inr ⟨dropped s 1, by rw [get, if_pos rfl], ?_⟩
          unfold dropped
          rw [if_neg (by simp), if_neg (by omega)]
          simp; omega
      · rcases h i with h1 | ⟨t, ht, hc⟩
        · left; rw [List.count_cons] at h1; omega
        · right
          refine ⟨t, by rw [get, if_neg e]; exact ht, ?_⟩
          rw [List.count_cons] at hc; omega
    obtain ⟨h1, h2⟩ := dropF_get r (drop1 ss fr j).1 (drop1 ss fr j).2 hnext
    refine ⟨⟨⟨s, hs, h0⟩, h1⟩, fun i => ?_⟩
    rw [dropF, h2, get, List.count_cons]
    by_cases e : i = j
    · subst e
      rw [if_pos rfl, hs]
      simp
      exact dropped_more s _ hjc
    · rw [if_neg e]
      have : (j == i) = false := by simp; omega
      rw [this]
      simp

theorem count_cast (ns : List Nat) (i : Nat) : (ns.map fun n : Nat => (n : Int)).count (i : Int) = ns.count i := by
  induction ns with
  | nil => rfl
  | cons x r ih =>
    rw [List.map_cons, List.count_cons, List.count_cons, ih]
    congr 1
    by_cases e : x = i
    · subst e; simp
    · have h1 : (x == i) = false := by simpa using e
      have h2 : ((x : Int) == (i : Int)) = false := by simp; omega
      rw [h1, h2]

theorem ids_nats {ss : List Slot} : ∀ (ids : List Int), (∀ z ∈ ids, Held ss z) → ∃ ns : List Nat, ids = ns.map fun n : Nat => (n : Int)
  | [], _ => ⟨[], rfl⟩
  | z :: r, h => by
    obtain ⟨i, s, rfl, _⟩ := h z (by simp)
    obtain ⟨ns, rfl⟩ := ids_nats r (fun x hx => h x (by simp [hx]))
    exact ⟨i :: ns, rfl⟩

/-- what a drop wants to know -/
theorem Inv.canDrop {ss : List Slot} {fr : List Nat} {ns : List Nat} {L : List Int} {cs : List Ct} (h : Inv ss fr ((ns.map fun n : Nat => (n : Int), L) :: cs)) :
    (∀ i, ns.count i = 0 ∨ ∃ s, ss[i]? = some s ∧ ns.count i ≤ s.holds) ∧ ∀ (m i : Nat), ns[m]? = some i → holdsOf ss (i : Int) ≠ 0 := by
  constructor
  · intro i
    by_cases c : ns.count i = 0
    · exact .inl c
    · right
      have hi : i ∈ ns := List.count_pos_iff.1 (by omega)
      obtain ⟨i', s, e, hs, _⟩ := (h.lies (ns.map fun n : Nat => (n : Int), L) (by simp)).held (i : Int) (List.mem_map.2 ⟨i, hi, rfl⟩)
      have : i' = i := by omega
      subst this
      have := h.acc i' s hs
      simp only [tot] at this
      rw [count_cast] at this
      exact ⟨s, hs, by omega⟩
  · intro m i hm
    obtain ⟨i', s, e, hs, hh⟩ := (h.lies (ns.map fun n : Nat => (n : Int), L) (by simp)).held (i : Int) (List.mem_map.2 ⟨i, List.mem_of_getElem? hm, rfl⟩)
    have : i' = i := by omega
    subst this
    rw [holdsOf_nat ss i' s hs]
    exact hh

theorem Inv.drop {ss : List Slot} {fr : List Nat} {ns : List Nat} {L : List Int} {cs : List Ct} (h : Inv ss fr ((ns.map fun n : Nat => (n : Int), L) :: cs)) (hg : Good (dropF ss fr ns).1 (dropF ss fr ns).2) : Inv (dropF ss fr ns).1 (dropF ss fr ns).2 cs := by
  have get := (dropF_get ns ss fr h.canDrop.1).2
  refine ⟨hg, fun d hd => ?_, fun i s hs => ?_⟩
  · refine lies_frame (h.lies d (by simp [hd])) fun i s hi hs => ⟨dropped s (ns.count i), by rw [get, hs]; rfl, ?_⟩
    have ha := h.acc i s hs
    have hp := tot_mem cs (i : Int) ⟨d, hd, hi⟩
    simp only [tot] at ha
    rw [count_cast] at ha
    unfold dropped
    by_cases c : ns.count i = 0
    · rw [if_pos c]; exact ⟨rfl, by omega⟩
    · rw [if_neg c, if_neg (by omega)]
      exact ⟨rfl, by simp; omega⟩
  · rw [get] at hs
    cases hq : ss[i]? with
    | none => rw [hq] at hs; cases hs
    | some t =>
      rw [hq] at hs
      simp at hs
      subst hs
      have ha := h.acc i t hq
      simp only [tot] at ha
      rw [count_cast] at ha
      unfold dropped
      by_cases c : ns.count i = 0
      · rw [if_pos c]; omega
      · rw [if_neg c]
        by_cases e : t.holds = ns.count i
        · rw [if_pos e]; simp [Slot.none]; omega
        · rw [if_neg e]; simp; omega

theorem dropF_length : ∀ (ns : List Nat) (ss : List Slot) (fr : List Nat), (dropF ss fr ns).1.length = ss.length
  | [], ss, fr => rfl
  | j :: r, ss, fr => by
    rw [dropF, dropF_length]
    unfold drop1
    cases ss[j]? with
    | none => rfl
    | some s => by_cases c : s.holds = 1 <;> simp [c]

/-- a store with no content is all free -/
theorem Inv.empty {ss : List Slot} {fr : List Nat} (h : Inv ss fr []) : fr.length = ss.length := by
  have h1 := h.good.le
  have h2 : (List.range ss.length).length ≤ fr.length := by
    apply List.Nodup.length_le_of_subset (List.nodup_range)
    intro i hi
    have hi' := List.mem_range.1 hi
    exact (h.good.isFree i).2 ⟨ss[i], by rw [List.getElem?_eq_getElem hi'], by have := h.acc i ss[i] (by rw [List.getElem?_eq_getElem hi']); simpa [tot] using this⟩
  rw [List.length_range] at h2
  omega

set_option maxRecDepth 100000 in
theorem drop_missing {w : World} {p S F : Nat} {ss : List Slot} {fr : List Nat} (h : Ar w p S F ss fr) (b off cap l : Nat) (sz z : Int) (hl : l ≤ 1048576) (hz : w.cell? ⟨b, off, none⟩ = some (.int .i64 z)) (h0 : holdsOf ss z = 0) :
    Calls Try.prog 15 #[.pointer (some ⟨p, 0, none⟩), .agg #[.slice (some ⟨b, off, none⟩) (l + 1) cap, .int .i64 sz]] w fun e w' => e = .returned (.int .i64 4) ∧ Below w.heap.size w w' := by
  have B0 := Box.mk w (.slice (some ⟨b, off, none⟩) (l + 1) cap) sz
  have k0 := B0.c0
  have kz := cell_below B0.below hz
  have q := holds_any (h.grow B0.below) z
  rw [h0] at q
  have bb := B0.below
  have hl2 : (0 : Int) < (l : Int) + 1 := by omega
  clear B0 hz
  go_enter Try.func15, Try.ntmps15
  go_wp2_with fail
  refine wp_loop_rounds 1 ?_
  rw [rounds_succ]
  go_wp2_with fail
  refine q.mono ?_
  rintro e w' ⟨rfl, rfl⟩
  go_wp2
  go_ret
  exact ⟨rfl, bb⟩

end Go.Proofs.Ytpjfhfbjdcgbjab
