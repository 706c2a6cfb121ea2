/-
  Plain: numbers to the base 1000, the least digit first; products; which is greater.
-/
namespace Go.Proofs.Ytgbfacbdagonaab
set_option linter.unusedVariables false

def val : List Nat → Nat
  | [] => 0
  | d :: l => d + 1000 * val l

def dg (n : Nat) : List Nat := if h : n = 0 then [] else n % 1000 :: dg (n / 1000)
termination_by n
decreasing_by omega

theorem dg_zero : dg 0 = [] := by rw [dg]; simp
theorem dg_pos {n : Nat} (h : n ≠ 0) : dg n = n % 1000 :: dg (n / 1000) := by rw [dg]; simp [h]

theorem val_dg (n : Nat) : val (dg n) = n := by
  induction n using Nat.strongRecOn with
  | _ n ih =>
    by_cases h : n = 0
    · subst h; rw [dg_zero]; rfl
    · rw [dg_pos h, val, ih (n / 1000) (by omega)]; omega

theorem dg_lt (n : Nat) : ∀ d ∈ dg n, d < 1000 := by
  induction n using Nat.strongRecOn with
  | _ n ih =>
    by_cases h : n = 0
    · subst h; rw [dg_zero]; intro d hd; cases hd
    · rw [dg_pos h]
      intro d hd
      rcases List.mem_cons.1 hd with rfl | hd
      · omega
      · exact ih (n / 1000) (by omega) d hd

theorem dg_len (k n : Nat) (h : n < 1000 ^ k) : (dg n).length ≤ k := by
  induction k generalizing n with
  | zero => have : n = 0 := by simpa using h
            subst this; rw [dg_zero]; simp
  | succ k ih =>
    by_cases c : n = 0
    · subst c; rw [dg_zero]; simp
    · rw [dg_pos c, List.length_cons]
      have : n / 1000 < 1000 ^ k := by rw [Nat.div_lt_iff_lt_mul (by omega)]; rw [Nat.pow_succ] at h; exact h
      have := ih _ this
      omega

theorem val_append (a b : List Nat) : val (a ++ b) = val a + 1000 ^ a.length * val b := by
  induction a with
  | nil => simp [val]
  | cons d l ih =>
    rw [List.cons_append, val, ih, val, List.length_cons, Nat.pow_succ, Nat.mul_add]
    rw [show 1000 ^ l.length * 1000 * val b = 1000 * (1000 ^ l.length * val b) by rw [Nat.mul_comm (1000 ^ l.length) 1000, Nat.mul_assoc]]
    omega

theorem val_lt (a : List Nat) (h : ∀ d ∈ a, d < 1000) : val a < 1000 ^ a.length := by
  induction a with
  | nil => simp [val]
  | cons d l ih =>
    have h1 := h d (by simp)
    have h2 := ih fun x hx => h x (by simp [hx])
    rw [val, List.length_cons, Nat.pow_succ]
    omega

theorem val_rep (n : Nat) : val (List.replicate n 0) = 0 := by
  induction n with
  | zero => rfl
  | succ n ih => rw [List.replicate_succ, val, ih]

theorem val_set (l : List Nat) (j x : Nat) (h : j < l.length) : val (l.set j (l[j] + x)) = val l + x * 1000 ^ j := by
  induction l generalizing j with
  | nil => simp at h
  | cons d l ih =>
    cases j with
    | zero => simp [val]; omega
    | succ j =>
      simp only [List.set_cons_succ, List.getElem_cons_succ, val]
      rw [ih j (by simpa using h), Nat.mul_add, Nat.pow_succ]
      rw [show 1000 * (x * 1000 ^ j) = x * (1000 ^ j * 1000) by rw [Nat.mul_comm 1000, Nat.mul_assoc]]
      omega

/-- a carry changes nothing -/
theorem val_carry (l : List Nat) (i : Nat) (h : i + 1 < l.length) : val ((l.set (i + 1) (l[i + 1] + l[i] / 1000)).set i (l[i] % 1000)) = val l := by
  induction l generalizing i with
  | nil => simp at h
  | cons d l ih =>
    cases i with
    | zero =>
      cases l with
      | nil => simp at h
      | cons e l => simp [val]; omega
    | succ i =>
      simp only [List.set_cons_succ, List.getElem_cons_succ, val]
      rw [ih i (by simpa using h)]

/-- digits, none of them a nought at the end -/
structure Norm (l : List Nat) : Prop where
  lt : ∀ d ∈ l, d < 1000
  last : ∀ h : l ≠ [], l.getLast h ≠ 0

theorem val_ge (l : List Nat) (h : ∀ k : l ≠ [], l.getLast k ≠ 0) (hne : l ≠ []) : 1000 ^ (l.length - 1) ≤ val l := by
  induction l with
  | nil => exact absurd rfl hne
  | cons d l ih =>
    by_cases c : l = []
    · subst c
      have := h (by simp)
      simp at this
      simp [val]; omega
    · have h2 : ∀ k : l ≠ [], l.getLast k ≠ 0 := fun k => by
        have := h (by simp)
        rwa [List.getLast_cons k] at this
      have := ih h2 c
      obtain ⟨m, hm⟩ : ∃ m, l.length = m + 1 := ⟨l.length - 1, by have := List.length_pos_iff.2 c; omega⟩
      rw [hm, Nat.add_sub_cancel] at this
      rw [val, List.length_cons, hm, Nat.add_sub_cancel, Nat.pow_succ]
      omega

theorem shorter {x y : List Nat} (hx : Norm x) (hy : Norm y) (h : x.length < y.length) : val x < val y := by
  have h1 := val_lt x hx.lt
  have hne : y ≠ [] := by intro e; subst e; simp at h
  have h2 := val_ge y hy.last hne
  have h3 : 1000 ^ x.length ≤ 1000 ^ (y.length - 1) := Nat.pow_le_pow_right (by omega) (by omega)
  omega

/-- of two of one length, alike from a place on -/
theorem alike {x y : List Nat} (hx : ∀ d ∈ x, d < 1000) (hy : ∀ d ∈ y, d < 1000) (hl : x.length = y.length) (i : Nat) (h1 : i < x.length) (h2 : i < y.length) (hd : x.drop (i + 1) = y.drop (i + 1)) (hne : x[i] < y[i]) : val x < val y := by
  have ex : x = x.take i ++ x[i] :: x.drop (i + 1) := by rw [List.getElem_cons_drop, List.take_append_drop]
  have ey : y = y.take i ++ y[i] :: y.drop (i + 1) := by rw [List.getElem_cons_drop, List.take_append_drop]
  have e1 : val x = val (x.take i) + 1000 ^ (x.take i).length * (x[i] + 1000 * val (x.drop (i + 1))) := by
    conv => lhs; rw [ex]
    rw [val_append, val]
  have e2 : val y = val (y.take i) + 1000 ^ (y.take i).length * (y[i] + 1000 * val (y.drop (i + 1))) := by
    conv => lhs; rw [ey]
    rw [val_append, val]
  have l1 : (x.take i).length = i := by rw [List.length_take]; omega
  have l2 : (y.take i).length = i := by rw [List.length_take]; omega
  have b1 := val_lt (x.take i) fun d hd => hx d (List.mem_of_mem_take hd)
  rw [l1] at b1 e1
  rw [l2] at e2
  rw [e1, e2, hd]
  generalize val (y.drop (i + 1)) = t at *
  generalize 1000 ^ i = p at *
  have : p * (x[i] + 1000 * t + 1) ≤ p * (y[i] + 1000 * t) := Nat.mul_le_mul_left _ (by omega)
  rw [Nat.mul_add p _ 1, Nat.mul_one] at this
  omega

end Go.Proofs.Ytgbfacbdagonaab
