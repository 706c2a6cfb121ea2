/-
  Plain: how long what steps lead to can be.
-/
import Derived.Test.YtmeaiplinkodiacDoorPl1
namespace Go.Proofs.YtmeaiplinkodiacDoor
open Go.Lib
set_option linter.unusedVariables false
set_option linter.unusedSimpArgs false

/-- the bytes of parts, and one for each -/
def wt : List (List UInt8) → Nat
  | [] => 0
  | p :: r => p.length + 1 + wt r

theorem wt_append : ∀ a b : List (List UInt8), wt (a ++ b) = wt a + wt b
  | [], b => by simp [wt]
  | p :: r, b => by simp only [List.cons_append, wt, wt_append r b]; omega

theorem wt_jn : ∀ (p : List UInt8) (r : List (List UInt8)), wt (p :: r) = (jn (p :: r)).length + 1
  | p, [] => by rw [jn_one]; simp [wt]
  | p, q :: r => by
    have ih := wt_jn q r
    rw [jn_cons, wt, ih]
    simp; omega

theorem jn_le_wt (ps : List (List UInt8)) : (jn ps).length ≤ wt ps := by
  cases ps with
  | nil => simp [jn_nil]
  | cons p r => rw [wt_jn]; omega

theorem wt_le_jn (ps : List (List UInt8)) : wt ps ≤ (jn ps).length + 1 := by
  cases ps with
  | nil => simp [wt]
  | cons p r => rw [wt_jn]; omega

theorem wt_dropLast (a : List (List UInt8)) : wt a.dropLast ≤ wt a := by
  by_cases h : a = []
  · subst h; simp
  · have := wt_append a.dropLast [a.getLast h]
    rw [List.dropLast_concat_getLast h] at this
    omega

theorem wt_stp : ∀ (S a : List (List UInt8)), wt (stp a S).1 ≤ wt a + wt S
  | [], a => by simp [stp]
  | p :: r, a => by
    simp only [stp, wt]
    split
    · have := wt_stp r a; omega
    · split
      · split
        · simp [wt]
        · have := wt_stp r a.dropLast; have := wt_dropLast a; omega
      · split
        · simp [wt]
        · have := wt_stp r (a ++ [p]); rw [wt_append] at this; simp [wt] at this; omega

theorem wt_spl (s : List UInt8) : wt (spl s) = s.length + 1 := by
  cases h : spl s with
  | nil => exact absurd h (spl_ne s)
  | cons p r => rw [wt_jn, ← h, jn_spl]

/-- how long the path is to which a name points -/
theorem stp_len (x : List (List UInt8)) (to_ : List UInt8) : (jn (stp x (spl to_)).1).length ≤ (jn x).length + to_.length + 2 := by
  have h1 := jn_le_wt (stp x (spl to_)).1
  have h2 := wt_stp (spl to_) x
  have h3 := wt_le_jn x
  have h4 := wt_spl to_
  omega

theorem rsv_ok (x : List (List UInt8)) (hx : ∀ p ∈ x, Good p) (to_ : List UInt8) (h : (rsv (jn x) to_).2 = 0) : snd0 to_ = 0 ∧ (stp x (spl to_)).2 = 0 ∧ rsv (jn x) to_ = (jn (stp x (spl to_)).1, 0) ∧ (∀ p ∈ (stp x (spl to_)).1, Good p) := by
  unfold rsv at h ⊢
  by_cases c1 : snd0 to_ = 103
  · rw [if_pos c1] at h; simp at h
  · rw [if_neg c1] at h ⊢
    by_cases c2 : snd0 to_ = 0
    · rw [if_neg (by simp [c2]), prt_jn x hx] at h ⊢
      by_cases c3 : (stp x (spl to_)).2 = 0
      · rw [if_neg (by simp [c3])]
        exact ⟨c2, c3, rfl, stp_good _ _ hx (snd_pieces to_ c2)⟩
      · rw [if_pos c3] at h; simp at h; exact absurd h c3
    · rw [if_pos c2] at h; simp at h; exact absurd h c2

theorem rsv_no (d to_ : List UInt8) (h : (rsv d to_).2 ≠ 0) : (rsv d to_).1 = [] := by
  unfold rsv at h ⊢
  split
  · rfl
  · split
    · rfl
    · split
      · rfl
      · rename_i c1 c2 c3
        rw [if_neg c1, if_neg c2, if_neg c3] at h
        exact absurd rfl h

end Go.Proofs.YtmeaiplinkodiacDoor
