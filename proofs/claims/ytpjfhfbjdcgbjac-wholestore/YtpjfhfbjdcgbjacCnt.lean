/-
  Plain: a map that says how often each block stands in contents; how many blocks that are.
-/
import Derived.Test.YtpjfhfbjdcgbjacCns2
import Derived.Maps.RangeWalk
import Derived.Maps.OwnSet
import Derived.Maps.Views
namespace Go.Proofs.Ytpjfhfbjdcgbjac
open Go.RowKit
set_option linter.unusedVariables false
set_option linter.unusedSimpArgs false

/-- a number more -/
def plus1 (f : Int → Nat) (z : Int) : Int → Nat := fun y => f y + if z == y then 1 else 0

structure CntIs (D : DataW Unit) (f : Int → Nat) : Prop where
  tidy : Maps.Tidy D
  has : ∀ z : Int, Maps.has D (.int .i64 z) = decide (0 < f z)
  at_ : ∀ z : Int, D.atKey (.int .i64 z) (.lit (.int .i64 0)) = .lit (.int .i64 (f z : Int))

theorem CntIs.nil : CntIs (.map []) (fun _ => 0) :=
  ⟨Maps.tidy_empty, fun z => by simp [Maps.has], fun z => Maps.atKey_of_not_has (by simp [Maps.has]) _⟩

theorem CntIs.congr {D : DataW Unit} {f g : Int → Nat} (h : CntIs D f) (e : ∀ z, f z = g z) : CntIs D g := by
  have : f = g := funext e
  rw [← this]; exact h

theorem CntIs.put {D : DataW Unit} {f : Int → Nat} (h : CntIs D f) (z : Int) : CntIs (D.put (.int .i64 z) (.lit (.int .i64 ((f z : Int) + 1)))) (plus1 f z) := by
  have hk : WideAt.IsKeyLit (.int .i64 z) := trivial
  refine ⟨h.tidy.put hk _, fun y => ?_, fun y => ?_⟩
  · by_cases e : y = z
    · subst e
      rw [Maps.has_put_same h.tidy.isMap hk]
      simp [plus1]
    · have hne : (Lit.int .i64 y) ≠ .int .i64 z := fun x => e (by injection x)
      rw [Maps.has_put_other hne, h.has y]
      have : (z == y) = false := by simp; exact fun x => e x.symm
      simp [plus1, this]
  · by_cases e : y = z
    · subst e
      rw [Maps.atKey_put_same h.tidy.isMap hk]
      simp [plus1]
    · have hne : (Lit.int .i64 y) ≠ .int .i64 z := fun x => e (by injection x)
      rw [Maps.atKey_put_other hne, h.at_ y]
      have : (z == y) = false := by simp; exact fun x => e x.symm
      simp [plus1, this]

/-- how many of the first n blocks stand in contents -/
def live (n : Nat) (f : Int → Nat) : Nat := (List.range n).countP fun i : Nat => decide (0 < f (i : Int))

theorem live_put (f : Int → Nat) (i : Nat) : ∀ n, live n (plus1 f (i : Int)) = live n f + if i < n ∧ f (i : Int) = 0 then 1 else 0
  | 0 => by simp [live]
  | n + 1 => by
    have ih := live_put f i n
    unfold live at *
    rw [List.range_succ, List.countP_append, List.countP_append, ih]
    simp only [List.countP_cons, List.countP_nil, Nat.zero_add]
    by_cases e : i = n
    · subst e
      have h1 : ¬ (i < i ∧ f (i : Int) = 0) := fun h => absurd h.1 (Nat.lt_irrefl _)
      rw [if_neg h1]
      by_cases c : f (i : Int) = 0
      · simp [plus1, c]
      · have c' : 0 < f (i : Int) := by omega
        simp [plus1, c, c']
    · have h2 : ((i : Int) == (n : Int)) = false := by simp; omega
      have h3 : (i < n + 1 ∧ f (i : Int) = 0) ↔ (i < n ∧ f (i : Int) = 0) := by omega
      simp only [plus1, h2, h3]
      simp
      omega

theorem CntIs.size {D : DataW Unit} {f : Int → Nat} (h : CntIs D f) (i n : Nat) (hi : i < n) (hs : Maps.size D = live n f) : Maps.size (D.put (.int .i64 (i : Int)) (.lit (.int .i64 ((f (i : Int) : Int) + 1)))) = live n (plus1 f (i : Int)) := by
  rw [Maps.size_put h.tidy, h.has, live_put, hs]
  by_cases c : f (i : Int) = 0
  · simp [c, hi]
  · have c' : 0 < f (i : Int) := by omega
    simp [c, c']

/-- those that stand in no content are free -/
theorem Inv.live {ss : List Slot} {fr : List Nat} {cs : List Ct} (h : Inv ss fr cs) : fr.length + live ss.length (tot cs) = ss.length := by
  have hm : ∀ i, i ∈ fr ↔ i ∈ (List.range ss.length).filter (fun i : Nat => !decide (0 < tot cs (i : Int))) := by
    intro i
    rw [h.good.isFree i, List.mem_filter, List.mem_range]
    constructor
    · rintro ⟨s, h1, h2⟩
      have := h.acc i s h1
      exact ⟨lt_of_some h1, by simp; omega⟩
    · rintro ⟨h1, h2⟩
      have hs : ss[i]? = some ss[i] := List.getElem?_eq_getElem h1
      have := h.acc i _ hs
      simp at h2
      exact ⟨ss[i], hs, by omega⟩
  have hn : ((List.range ss.length).filter (fun i : Nat => !decide (0 < tot cs (i : Int)))).Nodup := List.nodup_range.filter _
  have l1 := List.Nodup.length_le_of_subset h.good.nodup (fun i hi => (hm i).1 hi)
  have l2 := List.Nodup.length_le_of_subset hn (fun i hi => (hm i).2 hi)
  have e := List.length_eq_countP_add_countP (fun i : Nat => decide (0 < tot cs (i : Int))) (l := List.range ss.length)
  rw [List.length_range] at e
  have e2 : ((List.range ss.length).filter (fun i : Nat => !decide (0 < tot cs (i : Int)))).length = (List.range ss.length).countP (fun a : Nat => decide (¬ (decide (0 < tot cs (a : Int)) = true))) := by
    rw [List.countP_eq_length_filter]
    congr 1
    apply List.filter_congr
    intro x _
    by_cases c : 0 < tot cs (x : Int) <;> simp [c]
  unfold Go.Proofs.Ytpjfhfbjdcgbjac.live
  omega

end Go.Proofs.Ytpjfhfbjdcgbjac
