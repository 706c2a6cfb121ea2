/-
  Plain: octal digits written and read again.
-/
import Derived.Test.YtamdonhmholjpacDoorPd
import Derived.Test.YtamdonhmholjpacDoorOct
namespace Go.Proofs.YtamdonhmholjpacDoor

theorem dgo_octs (m : Nat) : ∀ (n p : Int) (r : List Int), ¬ p = 2 → 0 ≤ n → n < 8 ^ (m + 1) → n ≤ 9223372036854775807 → dgo (octs n (m + 1) ++ r) 0 p = dgo r n 1 := by
  induction m with
  | zero =>
    intro n p r hp h0 h1 h2
    have h1 : n < 8 := by simpa using h1
    have e : octs n (0 + 1) = [48 + n] := by simp [octs]; omega
    rw [e]
    simp only [List.cons_append, List.nil_append, dgo, dstep]
    rw [if_neg (by omega), if_pos ⟨by omega, hp⟩, if_neg (by omega)]
    simp only [Int.mul_zero, Int.zero_add]
    rw [show 48 + n - 48 = n by omega]
  | succ m ih =>
    intro n p r hp h0 h1 h2
    rw [Int.pow_succ] at h1
    rw [octs, List.append_assoc, ih (n / 8) p _ hp (by omega) (by omega) (by omega)]
    simp only [List.cons_append, List.nil_append, dgo, dstep]
    rw [if_neg (by omega), if_pos ⟨by omega, by omega⟩, if_neg (by omega)]
    simp only []
    rw [show 8 * (n / 8) + (48 + n % 8 - 48) = n by omega]

theorem octs_cons (n : Int) (m : Nat) : ∃ z t, octs n (m + 1) = z :: t ∧ 48 ≤ z ∧ z ≤ 55 := by
  cases h : octs n (m + 1) with
  | nil => have := octs_length n (m + 1); rw [h] at this; simp at this
  | cons z t => exact ⟨z, t, rfl, octs_mem n (m + 1) z (by rw [h]; simp)⟩

theorem parseO_octs (n : Int) (m : Nat) (r : List Int) (h0 : 0 ≤ n) (h1 : n < 8 ^ (m + 1)) (h2 : n ≤ 9223372036854775807) : parseO (octs n (m + 1) ++ r) = dgo r n 1 := by
  have d := dgo_octs m n 0 r (by decide) h0 h1 h2
  obtain ⟨z, t, e, z0, z1⟩ := octs_cons n m
  rw [e] at d ⊢
  simp only [List.cons_append, parseO] at d ⊢
  rw [if_pos (by omega), d]

theorem parseO_field (n : Int) (m : Nat) (h0 : 0 ≤ n) (h1 : n < 8 ^ (m + 1)) (h2 : n ≤ 9223372036854775807) : parseO (octs n (m + 1) ++ [0]) = some n := by
  rw [parseO_octs n m [0] h0 h1 h2]; simp [dgo, dstep]

theorem field_bytes (n : Int) (m : Nat) : ∀ z ∈ octs n m ++ [0], 0 ≤ z ∧ z ≤ 255 := by
  intro z hz
  rcases List.mem_append.1 hz with h | h
  · have := octs_mem n m z h; omega
  · simp at h; omega

end Go.Proofs.YtamdonhmholjpacDoor
