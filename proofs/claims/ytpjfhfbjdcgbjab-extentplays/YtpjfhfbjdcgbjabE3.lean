/-
  A drawn region by an invariant: what holds of the operations that have come up, whatever their order.
-/
import Derived.Test.YtpjfhfbjdcgbjabE2
import Derived.Deep.RegionHeld
namespace Go.Proofs.Ytpjfhfbjdcgbjab
open Go.RowKit
set_option linter.unusedVariables false
set_option linter.unusedSimpArgs false

/-- how many have not come up -/
def left : List Bool → Nat
  | [] => 0
  | true :: l => left l
  | false :: l => left l + 1

theorem left_set : ∀ (l : List Bool) (i : Nat), l[i]? = some false → left (l.set i true) + 1 = left l
  | [], i, h => by simp at h
  | b :: l, 0, h => by
    have : b = false := by simpa using h
    subst this
    rfl
  | b :: l, i + 1, h => by
    have h' : l[i]? = some false := by simpa using h
    have := left_set l i h'
    cases b
    · show left (l.set i true) + 1 + 1 = left l + 1
      omega
    · exact this

theorem left_ready {md : Region.Mode} {ops : Array Oper} {listed : Array Bool} {i : Nat} (h : i ∈ Region.ready md ops listed) : left (listed.setIfInBounds i true).toList < left listed.toList := by
  have h1 : listed.getD i true = false := (mem_ready.1 h).1
  have h2 : listed.toList[i]? = some false := by
    rcases Nat.lt_or_ge i listed.size with h' | h'
    · simp [h'] at h1
      simp [h', h1]
    · simp [Array.getElem?_eq_none h'] at h1
  have := left_set listed.toList i h2
  rw [Array.toList_setIfInBounds]
  omega

theorem wpAnyH_inv {P : Program} {md : Region.Mode} {ops : Array Oper} {Q : Exit → Act → World → Prop} {S : World → Prop} (I : Array Bool → Act → World → Prop)
    (hs : ∀ listed a w, I listed a w → (Region.ready md ops listed = [] → Q .normal a w) ∧ ∀ i ∈ Region.ready md ops listed, wpOp P ops Q i (fun a' w' => S w' ∧ I (listed.setIfInBounds i true) a' w') a w) :
    ∀ (fuel : Nat) (listed : Array Bool) (a : Act) (w : World), left listed.toList ≤ fuel → I listed a w → wpAnyH P md ops Q S fuel listed a w
  | 0, listed, a, w, hf, hI => by
    have hr : Region.ready md ops listed = [] := by
      cases hx : Region.ready md ops listed with
      | nil => rfl
      | cons i r =>
        have := left_ready (md := md) (ops := ops) (listed := listed) (i := i) (by rw [hx]; simp)
        omega
    exact ⟨hr, (hs listed a w hI).1 hr⟩
  | fuel + 1, listed, a, w, hf, hI => by
    refine ⟨(hs listed a w hI).1, fun i hi => ?_⟩
    exact wpOp_mono (fun a' w' h => ⟨h.1, wpAnyH_inv I hs fuel _ a' w' (by have := left_ready hi; omega) h.2⟩) ((hs listed a w hI).2 i hi)

theorem wpOp_shut {P : Program} {ops : Array Oper} {Q : Exit → Act → World → Prop} {i : Nat} {o : Oper} {K : Act → World → Prop} {a : Act} {w : World} (ho : ops[i]? = some o)
    (h : ∀ K' : Act → World → Prop, Shut (∀ a w, K a w → K' a w) → if Region.wanted o (yielded ops a.tmps) = true then Oper.wp P o a w K' Q else K' (a.put o.dst undef) w) : wpOp P ops Q i K a w :=
  wpOp_step ho (fun K' hK => h K' hK)

theorem wpOp_list {P : Program} {ops : Array Oper} {Q : Exit → Act → World → Prop} {i : Nat} {o : Oper} {K : Act → World → Prop} {a : Act} {w : World} (ho : ops[i]? = some o)
    (h : ∀ Q' : Exit → Act → World → Prop, (∀ a w, K a w → Q' .normal a w) → wpList P ops Q' [o] a w) : wpOp P ops Q i K a w := by
  have h1 := h (fun e a w => match e with | .normal => K a w | .exit n => Q (.exit n) a w | .goto l => Q (.goto l) a w | .ret => Q .ret a w | .panic c => Q (.panic c) a w | .outgrown => Q .outgrown a w) (fun a w hk => hk)
  unfold wpList at h1
  unfold wpOp
  rw [ho]
  show if Region.wanted o (yielded ops a.tmps) = true then _ else _
  split
  · rename_i hw
    rw [if_pos hw] at h1
    rcases h1 with h1 | h1
    · refine .inl ?_
      unfold Oper.wp at h1 ⊢
      generalize (execOp a.eval o).run P w = r at h1 ⊢
      cases r with
      | ok n w' =>
        cases n <;> simp only [Oper.upon] at h1 ⊢ <;> first
          | exact h1
          | exact Calls.mono h1 (fun e w'' he => by cases e <;> exact he)
      | halt x w' => cases x <;> simp only [Oper.upon] at h1 ⊢ <;> exact h1
    · exact .inr h1
  · rename_i hw
    rw [if_neg hw] at h1
    exact h1

theorem keeps_row {p S F : Nat} {a W : World} (h : Keeps p S F a W) {g : Nat} (hg : a.heap.size ≤ g) (D : Array Value) : Keeps p S F a (W.setRow g D) :=
  ⟨h.os, h.tape, h.output, by rw [setRow_size]; exact h.size, fun k h1 h2 h3 h4 => by rw [setRow_other _ _ _ _ (by omega)]; exact h.block k h1 h2 h3 h4⟩

end Go.Proofs.Ytpjfhfbjdcgbjab
