/-
  The order of paths, plain.
-/
import Derived.Test.YtpgiibpalmhhlaaGreatDoorFns
namespace Go.Proofs.YtpgiibpalmhhlaaGreatDoor
open Go.RowKit
open Go.Lib hiding intOf
set_option linter.unusedVariables false
set_option linter.unusedSimpArgs false

theorem rk_inj (a b : UInt8) (h : rk a = rk b) : a = b := by
  unfold rk at h
  by_cases c1 : a = 47
  · by_cases c2 : b = 47
    · rw [c1, c2]
    · rw [if_pos c1, if_neg c2] at h; omega
  · by_cases c2 : b = 47
    · rw [if_neg c1, if_pos c2] at h; omega
    · rw [if_neg c1, if_neg c2] at h
      exact UInt8.toNat_inj.1 (by omega)
theorem rk_low (a : UInt8) : -1 ≤ rk a := by unfold rk; split <;> omega
theorem rk_low' (a : UInt8) (h : rk a ≤ -1) : a = 47 := by
  unfold rk at h
  by_cases c : a = 47
  · exact c
  · rw [if_neg c] at h; omega

theorem ci_lt (x y : Int) (h : x < y) : Lib.compareInt x y = -1 := by unfold Lib.compareInt; simp [h]
theorem ci_gt (x y : Int) (h : y < x) : Lib.compareInt x y = 1 := by unfold Lib.compareInt; rw [if_neg (by omega), if_pos h]

theorem cmpL_self : ∀ a, cmpL a a = 0
  | [] => rfl
  | a :: x => by rw [cmpL, if_pos rfl]; exact cmpL_self x

/-- what two heads say -/
theorem cmpL_cons (a b : UInt8) (x y : List UInt8) : (a = b ∧ cmpL (a :: x) (b :: y) = cmpL x y) ∨ (rk a < rk b ∧ cmpL (a :: x) (b :: y) = -1) ∨ (rk b < rk a ∧ cmpL (a :: x) (b :: y) = 1) := by
  by_cases h : a = b
  · left; exact ⟨h, by rw [cmpL, if_pos h]⟩
  · right
    have hne : rk a ≠ rk b := fun e => h (rk_inj a b e)
    rw [cmpL, if_neg h]
    by_cases h2 : rk a < rk b
    · left; exact ⟨h2, ci_lt _ _ h2⟩
    · right; exact ⟨by omega, ci_gt _ _ (by omega)⟩

theorem cmpL_zero : ∀ a b, cmpL a b = 0 ↔ a = b
  | [], [] => by simp [cmpL]
  | [], b :: y => by simp [cmpL]
  | a :: x, [] => by simp [cmpL]
  | a :: x, b :: y => by
    rcases cmpL_cons a b x y with ⟨h, e⟩ | ⟨h, e⟩ | ⟨h, e⟩
    · rw [e, cmpL_zero x y, h]; simp
    · rw [e]; constructor
      · intro h; omega
      · intro h2; injection h2 with h2 _; rw [h2] at h; omega
    · rw [e]; constructor
      · intro h; omega
      · intro h2; injection h2 with h2 _; rw [h2] at h; omega

theorem cmpL_swap : ∀ a b, cmpL b a = - cmpL a b
  | [], [] => rfl
  | [], b :: y => rfl
  | a :: x, [] => rfl
  | a :: x, b :: y => by
    rcases cmpL_cons a b x y with ⟨h, e⟩ | ⟨h, e⟩ | ⟨h, e⟩ <;> rcases cmpL_cons b a y x with ⟨h', e'⟩ | ⟨h', e'⟩ | ⟨h', e'⟩ <;> rw [e, e'] <;> first | exact cmpL_swap x y | rfl | omega | (rw [h] at h'; omega) | (rw [h'] at h; omega)

theorem cmpL_trans : ∀ a b c, cmpL a b ≤ 0 → cmpL b c ≤ 0 → cmpL a c ≤ 0
  | [], _, [], _, _ => by simp [cmpL]
  | [], _, c :: z, _, _ => by simp [cmpL]
  | a :: x, [], _, h, _ => by simp [cmpL] at h
  | a :: x, b :: y, [], _, h => by simp [cmpL] at h
  | a :: x, b :: y, c :: z, h1, h2 => by
    rcases cmpL_cons a b x y with ⟨k1, e1⟩ | ⟨k1, e1⟩ | ⟨k1, e1⟩
    · rcases cmpL_cons b c y z with ⟨k2, e2⟩ | ⟨k2, e2⟩ | ⟨k2, e2⟩
      · rcases cmpL_cons a c x z with ⟨k3, e3⟩ | ⟨k3, e3⟩ | ⟨k3, e3⟩
        · rw [e3]; rw [e1] at h1; rw [e2] at h2; exact cmpL_trans x y z h1 h2
        · omega
        · rw [k1, k2] at k3; omega
      · rcases cmpL_cons a c x z with ⟨k3, e3⟩ | ⟨k3, e3⟩ | ⟨k3, e3⟩
        · rw [← k1, k3] at k2; omega
        · omega
        · rw [k1] at k3; omega
      · omega
    · rcases cmpL_cons b c y z with ⟨k2, e2⟩ | ⟨k2, e2⟩ | ⟨k2, e2⟩
      · rcases cmpL_cons a c x z with ⟨k3, e3⟩ | ⟨k3, e3⟩ | ⟨k3, e3⟩
        · rw [k3, ← k2] at k1; omega
        · omega
        · rw [← k2] at k3; omega
      · rcases cmpL_cons a c x z with ⟨k3, e3⟩ | ⟨k3, e3⟩ | ⟨k3, e3⟩
        · rw [k3] at k1; omega
        · omega
        · omega
      · omega
    · omega

/-- does the one begin with the other, and end or go on with a slash there? -/
def bnd : List UInt8 → List UInt8 → Bool
  | [], [] => true
  | [], c :: _ => c == 47
  | a :: d, b :: s => a == b && bnd d s
  | _ :: _, [] => false

theorem bnd_mid : ∀ d s t, bnd d t = true → cmpL d s < 0 → cmpL s t < 0 → bnd d s = true
  | [], s, [], _, h1, h2 => by cases s <;> simp [cmpL] at h1 h2
  | [], [], c :: t, _, h1, _ => by simp [cmpL] at h1
  | [], b :: s, c :: t, h, _, h2 => by
    simp [bnd] at h
    subst h
    have : b = 47 := by
      rcases cmpL_cons b 47 s t with ⟨k, e⟩ | ⟨k, e⟩ | ⟨k, e⟩
      · exact k
      · exact rk_low' b (by have : rk 47 = -1 := rfl; omega)
      · omega
    simp [bnd, this]
  | a :: d, s, [], h, _, _ => by simp [bnd] at h
  | a :: d, [], c :: t, _, h1, _ => by simp [cmpL] at h1
  | a :: d, b :: s, c :: t, h, h1, h2 => by
    simp [bnd] at h
    obtain ⟨rfl, h⟩ := h
    rcases cmpL_cons a b d s with ⟨k1, e1⟩ | ⟨k1, e1⟩ | ⟨k1, e1⟩
    · subst k1
      rcases cmpL_cons a a s t with ⟨k2, e2⟩ | ⟨k2, e2⟩ | ⟨k2, e2⟩
      · simp [bnd]; exact bnd_mid d s t h (by omega) (by omega)
      · omega
      · omega
    · rcases cmpL_cons b a s t with ⟨k2, e2⟩ | ⟨k2, e2⟩ | ⟨k2, e2⟩
      · rw [k2] at k1; omega
      · omega
      · omega
    · omega

/-- the order by parts -/
def ltB : List UInt8 → List UInt8 → Bool
  | [], [] => false
  | [], _ :: _ => true
  | _ :: _, [] => false
  | a :: x, b :: y => if a = b then ltB x y else decide (a.toNat < b.toNat)
def lessP : List (List UInt8) → List (List UInt8) → Bool
  | [], [] => false
  | [], _ :: _ => true
  | _ :: _, [] => false
  | p :: x, q :: y => if p = q then lessP x y else ltB p q

def tl (x : List (List UInt8)) : List UInt8 := if x = [] then [] else 47 :: jn x
theorem jn_tl (p : List UInt8) (x : List (List UInt8)) : jn (p :: x) = p ++ tl x := by
  cases x with
  | nil => rw [jn_one]; simp [tl]
  | cons q r => rw [jn_cons]; simp [tl]

theorem cmpL_app : ∀ p a b, cmpL (p ++ a) (p ++ b) = cmpL a b
  | [], a, b => rfl
  | c :: p, a, b => by
    show cmpL (c :: (p ++ a)) (c :: (p ++ b)) = _
    rw [cmpL, if_pos rfl]; exact cmpL_app p a b

theorem rk_of (a : UInt8) (h : a ≠ 47) : rk a = a.toNat := by unfold rk; rw [if_neg h]

theorem cmpL_part : ∀ (p q : List UInt8) (x y : List (List UInt8)), 47 ∉ p → 47 ∉ q → p ≠ q → (decide (cmpL (p ++ tl x) (q ++ tl y) < 0) = ltB p q)
  | [], [], _, _, _, _, h => absurd rfl h
  | [], b :: q, x, y, _, hq, _ => by
    have hb : b ≠ 47 := fun e => hq (by rw [e]; simp)
    unfold ltB
    rw [List.nil_append, List.cons_append]
    unfold tl
    split
    · simp [cmpL]
    · rcases cmpL_cons 47 b (jn x) (q ++ if y = [] then [] else 47 :: jn y) with ⟨k, e⟩ | ⟨k, e⟩ | ⟨k, e⟩
      · exact absurd k.symm hb
      · rw [e]; rfl
      · have h47 : rk 47 = -1 := rfl
        have := rk_low b
        omega
  | a :: p, [], x, y, hp, _, _ => by
    have ha : a ≠ 47 := fun e => hp (by rw [e]; simp)
    unfold ltB
    rw [List.nil_append, List.cons_append]
    by_cases hy : y = []
    · have e : tl y = [] := if_pos hy
      rw [e]; rfl
    · have e : tl y = 47 :: jn y := if_neg hy
      rw [e]
      rcases cmpL_cons a 47 (p ++ tl x) (jn y) with ⟨k, e⟩ | ⟨k, e⟩ | ⟨k, e⟩
      · exact absurd k ha
      · have h47 : rk 47 = -1 := rfl
        have := rk_low a
        omega
      · rw [e]; rfl
  | a :: p, b :: q, x, y, hp, hq, hne => by
    have ha : a ≠ 47 := fun e => hp (by rw [e]; simp)
    have hb : b ≠ 47 := fun e => hq (by rw [e]; simp)
    rw [List.cons_append, List.cons_append, ltB]
    rcases cmpL_cons a b (p ++ tl x) (q ++ tl y) with ⟨k, e⟩ | ⟨k, e⟩ | ⟨k, e⟩
    · rw [e, if_pos k]
      subst k
      exact cmpL_part p q x y (fun h => hp (by simp [h])) (fun h => hq (by simp [h])) (fun e => hne (by rw [e]))
    · rw [rk_of a ha, rk_of b hb] at k
      rw [e, if_neg (fun e => by rw [e] at k; omega)]
      simp; omega
    · rw [rk_of a ha, rk_of b hb] at k
      rw [e, if_neg (fun e => by rw [e] at k; omega)]
      simp; omega

theorem less_cons : ∀ (x y : List (List UInt8)), (∀ p ∈ x, 47 ∉ p ∧ p ≠ []) → (∀ p ∈ y, 47 ∉ p ∧ p ≠ []) → decide (cmpL (jn x) (jn y) < 0) = lessP x y
  | [], [], _, _ => by rw [cmpL_self]; rfl
  | [], q :: y, _, hy => by
    have := jn_ne q y (hy q (by simp)).2
    cases hj : jn (q :: y) with
    | nil => exact absurd hj this
    | cons b t => rfl
  | p :: x, [], hx, _ => by
    have := jn_ne p x (hx p (by simp)).2
    cases hj : jn (p :: x) with
    | nil => exact absurd hj this
    | cons b t => rfl
  | p :: x, q :: y, hx, hy => by
    rw [jn_tl, jn_tl, lessP]
    by_cases h : p = q
    · subst h
      rw [if_pos rfl, cmpL_app, ← less_cons x y (fun r hr => hx r (by simp [hr])) (fun r hr => hy r (by simp [hr]))]
      unfold tl
      cases x with
      | nil => cases y with
        | nil => rfl
        | cons q' y' =>
          have := jn_ne q' y' (hy q' (by simp)).2
          cases hj : jn (q' :: y') with
          | nil => exact absurd hj this
          | cons b t => simp [cmpL, jn_nil, hj]
      | cons p' x' => cases y with
        | nil =>
          have := jn_ne p' x' (hx p' (by simp)).2
          cases hj : jn (p' :: x') with
          | nil => exact absurd hj this
          | cons b t => simp [cmpL, jn_nil, hj]
        | cons q' y' => simp [cmpL]
    · rw [if_neg h]
      exact cmpL_part p q x y (hx p (by simp)).1 (hy q (by simp)).1 h

end Go.Proofs.YtpgiibpalmhhlaaGreatDoor
