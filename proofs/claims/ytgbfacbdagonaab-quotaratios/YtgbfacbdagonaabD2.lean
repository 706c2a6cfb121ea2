/-
  Plain: what a product written out digit by digit keeps.
-/
import Derived.Test.YtgbfacbdagonaabD0
namespace Go.Proofs.Ytgbfacbdagonaab
set_option linter.unusedVariables false

def gD (l : List Nat) (j : Nat) : Nat := l[j]?.getD 0
theorem gD_lt {l : List Nat} {j : Nat} (h : j < l.length) : gD l j = l[j] := by simp [gD, h]
theorem gD_some {l : List Nat} {j : Nat} (h : j < l.length) : l[j]? = some (gD l j) := by simp [gD, h]
theorem gD_ge {l : List Nat} {j : Nat} (h : l.length ≤ j) : gD l j = 0 := by simp [gD, h]
theorem gD_set {l : List Nat} {i j x : Nat} (h : i < l.length) : gD (l.set i x) j = if i = j then x else gD l j := by
  unfold gD
  rw [List.getElem?_set]
  by_cases e : i = j
  · subst e; simp [h]
  · simp [e]

theorem gval_set (l : List Nat) (j x : Nat) (h : j < l.length) : val (l.set j (gD l j + x)) = val l + x * 1000 ^ j := by
  rw [gD_lt h]; exact val_set l j x h
theorem gval_carry (l : List Nat) (i : Nat) (h : i + 1 < l.length) : val ((l.set (i + 1) (gD l (i + 1) + gD l i / 1000)).set i (gD l i % 1000)) = val l := by
  rw [gD_lt h, gD_lt (show i < l.length by omega)]; exact val_carry l i h

theorem val_take_succ (l : List Nat) (i : Nat) (h : i < l.length) : val (l.take (i + 1)) = val (l.take i) + gD l i * 1000 ^ i := by
  rw [List.take_succ_eq_append_getElem h, val_append, gD_lt h]
  simp only [val, List.length_take]
  rw [show min i l.length = i by omega, Nat.mul_comm (1000 ^ i)]
  simp

/-- while it is reckoned: so many rows, and so many digits of the next one -/
structure Acc (as bs out : List Nat) (i k : Nat) : Prop where
  len : out.length = as.length + bs.length + 1
  sm : val out = val (as.take i) * val bs + gD as i * 1000 ^ i * val (bs.take k)
  top : ∀ j, gD out j ≤ 998001 * (i * bs.length + k)

theorem Acc.begin (as bs : List Nat) : Acc as bs (List.replicate (as.length + bs.length + 1) 0) 0 0 := by
  refine ⟨by simp, ?_, fun j => ?_⟩
  · rw [val_rep]; simp [Go.Proofs.Ytgbfacbdagonaab.val]
  · unfold gD
    rw [List.getElem?_replicate]
    split <;> simp

theorem Acc.step {as bs out : List Nat} {i k : Nat} (h : Acc as bs out i k) (hi : i < as.length) (hk : k < bs.length) (ha : gD as i < 1000) (hb : gD bs k < 1000) : Acc as bs (out.set (i + k) (gD out (i + k) + gD as i * gD bs k)) i (k + 1) := by
  have hl : i + k < out.length := by rw [h.len]; omega
  refine ⟨by rw [List.length_set]; exact h.len, ?_, fun j => ?_⟩
  · rw [gval_set _ _ _ hl, h.sm, val_take_succ bs k hk, Nat.mul_add, Nat.pow_add]
    rw [show gD as i * gD bs k * (1000 ^ i * 1000 ^ k) = gD as i * 1000 ^ i * (gD bs k * 1000 ^ k) by
      rw [Nat.mul_assoc, Nat.mul_assoc, Nat.mul_left_comm (gD bs k)]]
    omega
  · rw [gD_set hl]
    have t1 := h.top j
    have hp : gD as i * gD bs k ≤ 999 * 999 := Nat.mul_le_mul (by omega) (by omega)
    have hm : 998001 * (i * bs.length + (k + 1)) = 998001 * (i * bs.length + k) + 998001 := by rw [← Nat.add_assoc, Nat.mul_add 998001 _ 1]
    rw [hm]
    split
    · next e => subst e; omega
    · omega

theorem Acc.row {as bs out : List Nat} {i : Nat} (h : Acc as bs out i bs.length) (hi : i < as.length) : Acc as bs out (i + 1) 0 := by
  refine ⟨h.len, ?_, fun j => ?_⟩
  · rw [h.sm, List.take_length, val_take_succ as i hi, List.take_zero, Nat.add_mul]
    simp [Go.Proofs.Ytgbfacbdagonaab.val]
  · have := h.top j
    rw [Nat.add_mul, Nat.one_mul, Nat.add_zero]
    exact this

theorem Acc.last {as bs out : List Nat} (h : Acc as bs out as.length 0) (ha : as.length ≤ 7) (hb : bs.length ≤ 7) : val out = val as * val bs ∧ ∀ j, gD out j ≤ 48902049 := by
  refine ⟨?_, fun j => ?_⟩
  · rw [h.sm, List.take_length, List.take_zero]; simp [Go.Proofs.Ytgbfacbdagonaab.val]
  · have := h.top j
    have hm : as.length * bs.length ≤ 7 * 7 := Nat.mul_le_mul ha hb
    have : 998001 * (as.length * bs.length + 0) ≤ 998001 * 49 := Nat.mul_le_mul_left _ (by omega)
    omega

/-- while it is carried: up to a place digits -/
structure Car (V n : Nat) (out : List Nat) (i : Nat) : Prop where
  len : out.length = n
  sm : val out = V
  low : ∀ j, j < i → gD out j < 1000
  at_ : gD out i ≤ 50000000
  top : ∀ j, i < j → gD out j ≤ 48902049

theorem Car.begin {V : Nat} {out : List Nat} (h : val out = V) (ht : ∀ j, gD out j ≤ 48902049) : Car V out.length out 0 :=
  ⟨rfl, h, fun j hj => by omega, by have := ht 0; omega, fun j _ => ht j⟩

theorem Car.step {V n : Nat} {out : List Nat} {i : Nat} (h : Car V n out i) (hi : i + 1 < n) : Car V n ((out.set (i + 1) (gD out (i + 1) + gD out i / 1000)).set i (gD out i % 1000)) (i + 1) := by
  have hl : i + 1 < out.length := by rw [h.len]; exact hi
  have g : ∀ j, gD ((out.set (i + 1) (gD out (i + 1) + gD out i / 1000)).set i (gD out i % 1000)) j = if i = j then gD out i % 1000 else if i + 1 = j then gD out (i + 1) + gD out i / 1000 else gD out j := fun j => by
    rw [gD_set (by rw [List.length_set]; omega), gD_set hl]
  refine ⟨by simp [h.len], by rw [gval_carry out i hl]; exact h.sm, fun j hj => ?_, ?_, fun j hj => ?_⟩
  · rw [g]
    split
    · omega
    · rw [if_neg (by omega)]; exact h.low j (by omega)
  · rw [g, if_neg (by omega), if_pos rfl]
    have := h.top (i + 1) (by omega)
    have := h.at_
    omega
  · rw [g, if_neg (by omega), if_neg (by omega)]
    exact h.top j (by omega)

/-- carried to the end all are digits -/
theorem Car.done {V n : Nat} {out : List Nat} (h : Car V (n + 1) out n) (hV : V < 1000 ^ n) : ∀ j, gD out j < 1000 := by
  intro j
  by_cases c : j < n
  · exact h.low j c
  · by_cases c2 : j = n
    · subst c2
      have e : out = out.take j ++ [gD out j] := by
        have hl : j < out.length := by rw [h.len]; omega
        rw [gD_lt hl, ← List.take_succ_eq_append_getElem hl, List.take_of_length_le (by rw [h.len]; exact Nat.le_refl _)]
      have hv := h.sm
      rw [e, val_append] at hv
      have l1 : (out.take j).length = j := by rw [List.length_take, h.len]; omega
      rw [l1] at hv
      simp only [Go.Proofs.Ytgbfacbdagonaab.val] at hv
      have : gD out j = 0 := by
        by_cases c3 : gD out j = 0
        · exact c3
        · have : 1000 ^ j * 1 ≤ 1000 ^ j * gD out j := Nat.mul_le_mul_left _ (by omega)
          simp only [Nat.mul_zero, Nat.add_zero] at hv
          omega
      omega
    · rw [gD_ge (by rw [h.len]; omega)]; omega

/-- noughts at the end left out -/
structure Trim (V : Nat) (out : List Nat) (n : Nat) : Prop where
  le : n ≤ out.length
  sm : val (out.take n) = V

theorem Trim.step {V : Nat} {out : List Nat} {n : Nat} (h : Trim V out (n + 1)) (h0 : gD out n = 0) : Trim V out n := by
  have hl : n < out.length := h.le
  refine ⟨by omega, ?_⟩
  have := h.sm
  rw [val_take_succ out n hl, h0] at this
  simpa using this

theorem Trim.norm {V : Nat} {out : List Nat} {n : Nat} (h : Trim V out n) (hd : ∀ j, gD out j < 1000) (hn : n = 0 ∨ gD out (n - 1) ≠ 0) : Norm (out.take n) ∧ (out.take n).length = n := by
  have hlen : (out.take n).length = n := by rw [List.length_take]; exact Nat.min_eq_left h.le
  refine ⟨⟨fun d hd' => ?_, fun hne => ?_⟩, hlen⟩
  · obtain ⟨j, hj, rfl⟩ := List.mem_iff_getElem.1 (List.mem_of_mem_take hd')
    rw [← gD_lt hj]; exact hd j
  · rcases hn with rfl | hn
    · exact absurd (List.take_zero) hne
    · have hp : 0 < n := by
        rcases Nat.eq_zero_or_pos n with e | e
        · subst e; exact absurd (List.take_zero) hne
        · exact e
      rw [List.getLast_eq_getElem, List.getElem_take]
      rw [← gD_lt]
      rw [hlen]; exact hn

/-- from the top down: alike above a place -/
theorem more_len {x y : List Nat} (hx : Norm x) (hy : Norm y) (h : x.length ≠ y.length) : decide (y.length < x.length) = decide (val y < val x) := by
  by_cases c : y.length < x.length
  · rw [decide_eq_true c, decide_eq_true (shorter hy hx c)]
  · have := shorter hx hy (by omega)
    rw [decide_eq_false c, decide_eq_false (by omega)]

theorem more_at {x y : List Nat} (hx : Norm x) (hy : Norm y) (hl : x.length = y.length) (i : Nat) (hi : i < x.length) (hd : x.drop (i + 1) = y.drop (i + 1)) (hne : gD x i ≠ gD y i) : decide (gD y i < gD x i) = decide (val y < val x) := by
  have hi2 : i < y.length := by omega
  rw [gD_lt hi, gD_lt hi2] at *
  by_cases c : y[i] < x[i]
  · rw [decide_eq_true c, decide_eq_true (alike hy.lt hx.lt hl.symm i hi2 hi hd.symm c)]
  · have := alike hx.lt hy.lt hl i hi hi2 hd (by omega)
    rw [decide_eq_false c, decide_eq_false (by omega)]

theorem drop_down {x y : List Nat} (i : Nat) (hi : i < x.length) (hi2 : i < y.length) (hd : x.drop (i + 1) = y.drop (i + 1)) (he : gD x i = gD y i) : x.drop i = y.drop i := by
  rw [gD_lt hi, gD_lt hi2] at he
  rw [List.drop_eq_getElem_cons hi, List.drop_eq_getElem_cons hi2, hd, he]

end Go.Proofs.Ytgbfacbdagonaab
