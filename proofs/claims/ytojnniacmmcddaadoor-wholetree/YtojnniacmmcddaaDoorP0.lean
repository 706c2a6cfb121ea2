/-
  Plain: rows in order stay so when one is laid; where it stands then.
-/
import Derived.Test.YtojnniacmmcddaaDoorT6
namespace Go.Proofs.YtojnniacmmcddaaDoor
open Go.RowKit
open Go.Lib hiding intOf
set_option linter.unusedVariables false
set_option linter.unusedSimpArgs false

theorem cmpL_gt {a b : List UInt8} (h : ¬ cmpL a b < 0) (hne : a ≠ b) : cmpL b a < 0 := by
  have h1 := cmpL_swap a b
  have h2 : cmpL a b ≠ 0 := fun e => hne ((cmpL_zero a b).1 e)
  omega

theorem cmpL_irrefl (a : List UInt8) : ¬ cmpL a a < 0 := by rw [cmpL_self]; omega

theorem take_lt {L : List Rw} {s : List UInt8} (h : Srt L) {r : Rw} (hr : r ∈ L.take (ix L s)) : cmpL r.p s < 0 := by
  obtain ⟨i, hi⟩ := List.mem_iff_getElem?.1 hr
  rw [List.getElem?_take] at hi
  split at hi
  · next hlt => exact (ix_iff L s h i r hi).2 hlt
  · cases hi

theorem drop_ge {L : List Rw} {s : List UInt8} (h : Srt L) {r : Rw} {k : Nat} (hk : ix L s ≤ k) (hr : r ∈ L.drop k) : ¬ cmpL r.p s < 0 := by
  obtain ⟨i, hi⟩ := List.mem_iff_getElem?.1 hr
  rw [List.getElem?_drop] at hi
  intro hc
  have := (ix_iff L s h _ r hi).1 hc
  omega

/-- a path that isn't there is no row's -/
theorem not_there {L : List Rw} {s : List UInt8} (h : Srt L) (hf : fd L s = false) : ∀ r ∈ L, r.p ≠ s := by
  intro r hr e
  obtain ⟨i, hi⟩ := List.mem_iff_getElem?.1 hr
  subst e
  have h1 : ¬ i < ix L r.p := fun q => cmpL_irrefl _ ((ix_iff L r.p h i r hi).2 q)
  have hlt : i < L.length := (List.getElem?_eq_some_iff.1 hi).1
  have hx : ix L r.p < L.length := by omega
  have hq : L[ix L r.p]? = some L[ix L r.p] := List.getElem?_eq_getElem hx
  have h2 : ¬ cmpL (L[ix L r.p]).p r.p < 0 := fun q => by have := (ix_iff L r.p h _ _ hq).1 q; omega
  by_cases c : i = ix L r.p
  · subst c
    unfold fd at hf
    rw [hi] at hf
    simp [cmpL_self] at hf
  · have := (List.pairwise_iff_getElem.1 h) (ix L r.p) i hx hlt (by omega)
    have e2 : L[i] = r := (List.getElem?_eq_some_iff.1 hi).2
    rw [e2] at this
    exact h2 this

theorem drop_gt {L : List Rw} {r0 : Rw} (h : Srt L) {r : Rw} (hr : r ∈ L.drop (ix L r0.p + if fd L r0.p then 1 else 0)) : cmpL r0.p r.p < 0 := by
  have hge : ¬ cmpL r.p r0.p < 0 := drop_ge h (by split <;> omega) hr
  refine cmpL_gt hge fun e => ?_
  cases hf : fd L r0.p with
  | false => exact not_there h hf r (List.mem_of_mem_drop hr) e
  | true =>
    rw [hf] at hr
    simp only [if_true] at hr
    obtain ⟨q, hq, hqp⟩ := fd_some hf
    obtain ⟨i, hi⟩ := List.mem_iff_getElem?.1 hr
    rw [List.getElem?_drop] at hi
    obtain ⟨h1, h2⟩ := List.getElem?_eq_some_iff.1 hq
    obtain ⟨h3, h4⟩ := List.getElem?_eq_some_iff.1 hi
    have := (List.pairwise_iff_getElem.1 h) (ix L r0.p) (ix L r0.p + 1 + i) h1 h3 (by omega)
    rw [h2, h4, hqp, e] at this
    exact cmpL_irrefl _ this

theorem Srt.put {L : List Rw} (h : Srt L) (r : Rw) : Srt (putL L r) := by
  unfold putL Srt
  rw [List.append_assoc]
  refine List.pairwise_append.2 ⟨h.sublist (List.take_sublist _ _), ?_, ?_⟩
  · rw [List.singleton_append]
    exact List.pairwise_cons.2 ⟨fun q hq => drop_gt h hq, h.sublist (List.drop_sublist _ _)⟩
  · intro a ha b hb
    have h1 := take_lt h ha
    rw [List.singleton_append] at hb
    rcases List.mem_cons.1 hb with rfl | hb
    · exact h1
    · exact cmpL_lt_trans _ _ _ h1 (drop_gt h hb)

/-- the rows behind: the new one, and the others of other paths -/
theorem mem_put {L : List Rw} (h : Srt L) (r q : Rw) : q ∈ putL L r ↔ q = r ∨ (q ∈ L ∧ q.p ≠ r.p) := by
  unfold putL
  simp only [List.mem_append, List.mem_singleton]
  constructor
  · rintro ((hq | rfl) | hq)
    · refine .inr ⟨List.mem_of_mem_take hq, fun e => ?_⟩
      have := take_lt h hq
      rw [e] at this
      exact cmpL_irrefl _ this
    · exact .inl rfl
    · refine .inr ⟨List.mem_of_mem_drop hq, fun e => ?_⟩
      have := drop_gt h hq
      rw [e] at this
      exact cmpL_irrefl _ this
  · rintro (rfl | ⟨hq, hne⟩)
    · exact .inl (.inr rfl)
    · obtain ⟨i, hi⟩ := List.mem_iff_getElem?.1 hq
      have hlt : i < L.length := (List.getElem?_eq_some_iff.1 hi).1
      by_cases c : i < ix L r.p
      · refine .inl (.inl (List.mem_iff_getElem?.2 ⟨i, ?_⟩))
        rw [List.getElem?_take, if_pos c]; exact hi
      · refine .inr (List.mem_iff_getElem?.2 ⟨i - (ix L r.p + if fd L r.p then 1 else 0), ?_⟩)
        rw [List.getElem?_drop]
        have hle : ix L r.p + (if fd L r.p then 1 else 0) ≤ i := by
          cases hf : fd L r.p with
          | false => simp; omega
          | true =>
            obtain ⟨q', hq1, hq2⟩ := fd_some hf
            have : i ≠ ix L r.p := fun e => by
              rw [e, hq1] at hi
              exact hne (by rw [← Option.some.inj hi]; exact hq2)
            simp; omega
        rw [Nat.add_sub_cancel' hle]
        exact hi

end Go.Proofs.YtojnniacmmcddaaDoor
