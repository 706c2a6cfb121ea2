/-
  Plain: what the reading of digits and of bytes comes to, as numbers.
-/
import Derived.Test.YtmholjjicklnhabDoorPd
namespace Go.Proofs.YtmholjjicklnhabDoor

/-- Bytes to the base 256 behind x. -/
def val : List Int → Int → Int
  | [], x => x
  | b :: r, x => val r (256 * x + b)

theorem val_append (x y : List Int) (a : Int) : val (x ++ y) a = val y (val x a) := by
  induction x generalizing a with
  | nil => rfl
  | cons b r ih => simp [val, ih]

def isByte (z : Int) : Prop := 0 ≤ z ∧ z ≤ 255

theorem val_high (r : List Int) (hr : ∀ z ∈ r, isByte z) (y : Int) (h : 9223372036854775807 < y) : 9223372036854775807 < val r y := by
  induction r generalizing y with
  | nil => exact h
  | cons b r ih =>
    have hb := hr b (by simp)
    unfold isByte at hb
    exact ih (fun z hz => hr z (by simp [hz])) _ (by omega)

theorem val_low (r : List Int) (hr : ∀ z ∈ r, isByte z) (y : Int) (h : y < -9223372036854775808) : val r y < -9223372036854775808 := by
  induction r generalizing y with
  | nil => exact h
  | cons b r ih =>
    have hb := hr b (by simp)
    unfold isByte at hb
    exact ih (fun z hz => hr z (by simp [hz])) _ (by omega)

theorem bgo_val (r : List Int) (hr : ∀ z ∈ r, isByte z) (x : Int) (h0 : -9223372036854775808 ≤ x) (h1 : x ≤ 9223372036854775807) :
    bgo r x = if -9223372036854775808 ≤ val r x ∧ val r x ≤ 9223372036854775807 then some (val r x) else none := by
  induction r generalizing x with
  | nil => simp [bgo, val, h0, h1]
  | cons b r ih =>
    have hb := hr b (by simp)
    have hr' : ∀ z ∈ r, isByte z := fun z hz => hr z (by simp [hz])
    unfold isByte at hb
    rw [show val (b :: r) x = val r (256 * x + b) from rfl, bgo]
    by_cases c : x < -36028797018963968 ∨ 36028797018963967 < x
    · rw [if_pos c, if_neg]
      rcases c with c | c
      · have := val_low r hr' (256 * x + b) (by omega); omega
      · have := val_high r hr' (256 * x + b) (by omega); omega
    · rw [if_neg c, ih hr' _ (by omega) (by omega)]

theorem val_bounds (r : List Int) (hr : ∀ z ∈ r, isByte z) (y : Int) : y * 256 ^ r.length ≤ val r y ∧ val r y ≤ y * 256 ^ r.length + 256 ^ r.length - 1 := by
  induction r generalizing y with
  | nil => simp [val]
  | cons b r ih =>
    have hb := hr b (by simp)
    unfold isByte at hb
    have := ih (fun z hz => hr z (by simp [hz])) (256 * y + b)
    simp only [val, List.length_cons, Int.pow_succ]
    have hp : (0 : Int) < 256 ^ r.length := Int.pow_pos (by decide)
    generalize (256 : Int) ^ r.length = P at *
    have e : (256 * y + b) * P = 256 * (y * P) + b * P := by rw [Int.add_mul, Int.mul_assoc]
    have e2 : y * (P * 256) = 256 * (y * P) := by rw [← Int.mul_assoc, Int.mul_comm]
    have b0 : 0 ≤ b * P := Int.mul_nonneg hb.1 (Int.le_of_lt hp)
    have b1 : b * P ≤ 255 * P := Int.mul_le_mul_of_nonneg_right hb.2 (Int.le_of_lt hp)
    rw [e] at this
    rw [e2]
    omega

theorem val_shift (r : List Int) (y : Int) : val r y = y * 256 ^ r.length + val r 0 := by
  induction r generalizing y with
  | nil => simp [val]
  | cons b r ih =>
    simp only [val, List.length_cons, Int.pow_succ]
    rw [ih (256 * y + b), ih (256 * 0 + b), Int.add_mul]
    simp only [Int.mul_zero, Int.zero_add]
    rw [Int.mul_assoc, Int.mul_left_comm, Int.mul_comm 256 (256 ^ r.length)]
    omega

/-- The sign's byte ahead turns nothing. -/
theorem bgo_sign (sg n0 : Int) (hs : (sg = 0 ∧ n0 = 0) ∨ (sg = 255 ∧ n0 = -1)) (r : List Int) : bgo (sg :: r) n0 = bgo r n0 := by
  simp only [bgo]
  rw [if_neg (by omega), show 256 * n0 + sg = n0 by omega]

/-- Another byte ahead of eight or more: too great. -/
theorem bgo_odd (sg n0 c : Int) (hs : (sg = 0 ∧ n0 = 0) ∨ (sg = 255 ∧ n0 = -1)) (r : List Int) (hc : isByte c) (hr : ∀ z ∈ r, isByte z) (hl : 8 ≤ r.length) (hne : c ≠ sg) : bgo (c :: r) n0 = none := by
  unfold isByte at hc
  rw [bgo_val (c :: r) (by intro z hz; rcases List.mem_cons.1 hz with rfl | h; exact hc; exact hr z h) n0 (by omega) (by omega), if_neg]
  have b := val_bounds r hr (256 * n0 + c)
  simp only [val]
  obtain ⟨m, hm⟩ : ∃ m, r.length = m + 8 := ⟨r.length - 8, by omega⟩
  rw [hm, Int.pow_add] at b
  have hp : (0 : Int) < 256 ^ m := Int.pow_pos (by decide)
  rw [show (256 : Int) ^ 8 = 18446744073709551616 by decide] at b
  generalize (256 : Int) ^ m = P at *
  rcases hs with ⟨rfl, rfl⟩ | ⟨rfl, rfl⟩
  · have e : (256 * 0 + c) * (P * 18446744073709551616) = (c * P) * 18446744073709551616 := by rw [← Int.mul_assoc]; simp
    have : 1 * P ≤ c * P := Int.mul_le_mul_of_nonneg_right (by omega) (Int.le_of_lt hp)
    rw [e] at b
    omega
  · have e : (256 * -1 + c) * (P * 18446744073709551616) = ((256 * -1 + c) * P) * 18446744073709551616 := by rw [← Int.mul_assoc]
    have : (256 * -1 + c) * P ≤ (-2) * P := Int.mul_le_mul_of_nonneg_right (by omega) (Int.le_of_lt hp)
    rw [e] at b
    omega

/-- Eight bytes: high and low halves. -/
theorem bgo_eight (sg n0 : Int) (hs : (sg = 0 ∧ n0 = 0) ∨ (sg = 255 ∧ n0 = -1)) (c : Int) (r : List Int) (hc : isByte c) (hr : ∀ z ∈ r, isByte z) (hl : r.length = 7) :
    bgo (c :: r) n0 = if (128 ≤ c ↔ n0 = -1) then some (n0 * 18446744073709551616 + val (c :: r) 0) else none := by
  unfold isByte at hc
  have hall : ∀ z ∈ c :: r, isByte z := by intro z hz; rcases List.mem_cons.1 hz with rfl | h; exact hc; exact hr z h
  rw [bgo_val (c :: r) hall n0 (by omega) (by omega)]
  have b := val_bounds r hr c
  rw [hl, show (256 : Int) ^ 7 = 72057594037927936 by decide] at b
  have e : val (c :: r) n0 = n0 * 18446744073709551616 + val (c :: r) 0 := by
    rw [val_shift]; simp [hl]
  have e0 : val (c :: r) 0 = val r c := by simp [val]
  rw [e, e0]
  by_cases h : 128 ≤ c
  · rcases hs with ⟨rfl, rfl⟩ | ⟨rfl, rfl⟩
    · rw [if_neg (by omega), if_neg (by simp [h])]
    · rw [if_pos (by omega), if_pos (by simp [h])]
  · rcases hs with ⟨rfl, rfl⟩ | ⟨rfl, rfl⟩
    · rw [if_pos (by omega), if_pos (by simp [h])]
    · rw [if_neg (by omega), if_neg (by simp [h])]

theorem val_take (t : List Int) (i : Nat) (h : i < t.length) : val (t.take (i + 1)) 0 = 256 * val (t.take i) 0 + t[i]?.getD 0 := by
  rw [List.take_succ_eq_append_getElem h, val_append]; simp [val, h]

theorem val_take_bd (t : List Int) (ht : ∀ z ∈ t, isByte z) (i : Nat) (hi : i ≤ 4) : 0 ≤ val (t.take i) 0 ∧ val (t.take i) 0 ≤ 4294967295 := by
  have b := val_bounds (t.take i) (fun z hz => ht z (List.mem_of_mem_take hz)) 0
  have hp : (256 : Int) ^ (t.take i).length ≤ 4294967296 := by
    have : (t.take i).length ≤ 4 := Nat.le_trans (List.length_take_le _ _) hi
    have h5 : ∀ j : Fin 5, (256 : Int) ^ j.val ≤ 4294967296 := by decide
    exact h5 ⟨_, by omega⟩
  omega

theorem val_halves (t : List Int) (h : t.length = 8) : val t 0 = val (t.take 4) 0 * 4294967296 + val ((t.drop 4).take 4) 0 := by
  have e : (t.drop 4).take 4 = t.drop 4 := List.take_of_length_le (by simp [h])
  rw [e]
  have : val t 0 = val (t.drop 4) (val (t.take 4) 0) := by rw [← val_append, List.take_append_drop]
  rw [this, val_shift]
  simp [h]

end Go.Proofs.YtmholjjicklnhabDoor
