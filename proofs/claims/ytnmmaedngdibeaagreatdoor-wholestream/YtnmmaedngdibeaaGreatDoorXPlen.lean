/-
  Plain: how many bytes a record has, its digits counted.
-/
import Derived.Lib.ItoaNum
namespace Go.Proofs.YtnmmaedngdibeaaGreatDoor.X
open Go.Lib

theorem nDigits_mono (a : Nat) : ∀ b, a ≤ b → nDigits a ≤ nDigits b := by
  induction a using Nat.strongRecOn with
  | _ a ih =>
    intro b hab
    by_cases h : a < 10
    · rw [nDigits_small h]; exact nDigits_pos b
    · rw [nDigits_big h, nDigits_big (u := b) (by omega)]
      have := ih (a / 10) (by omega) (b / 10) (by omega)
      omega

theorem pow_nDigits_le (u : Nat) (h : 1 ≤ u) : 10 ^ (nDigits u - 1) ≤ u := by
  induction u using Nat.strongRecOn with
  | _ u ih =>
    by_cases h1 : u < 10
    · rw [nDigits_small h1]; simpa using h
    · rw [nDigits_big h1]
      have := ih (u / 10) (by omega) (by omega)
      have hp := nDigits_pos (u / 10)
      obtain ⟨k, hk⟩ : ∃ k, nDigits (u / 10) = k + 1 := ⟨nDigits (u / 10) - 1, by omega⟩
      rw [hk] at this ⊢
      simp only [Nat.add_sub_cancel] at this ⊢
      rw [Nat.pow_succ]
      omega

/-- a record's length, if all behind its digits has n bytes -/
def plen (n : Nat) : Nat := if nDigits (n + nDigits n) = nDigits n then n + nDigits n else n + nDigits n + 1

theorem lt_pow10 (d : Nat) : d < 10 ^ d := Nat.lt_pow_self (by decide)

/-- the digits of what is nearly as great -/
theorem nDigits_next (n : Nat) : nDigits (n + nDigits n) = nDigits n ∨ (nDigits (n + nDigits n) = nDigits n + 1 ∧ nDigits (n + nDigits n + 1) = nDigits n + 1) := by
  have h1 := lt_pow_nDigits n
  have h2 := nDigits_mono n (n + nDigits n) (by omega)
  have h3 := lt_pow10 (nDigits n)
  generalize hd : nDigits n = d at *
  by_cases c : n + d < 10 ^ d
  · left
    by_cases c2 : nDigits (n + d) = d
    · exact c2
    · exfalso
      have hd1 : d + 1 ≤ nDigits (n + d) := by omega
      have := pow_nDigits_le (n + d) (by have := nDigits_pos n; omega)
      have : 10 ^ d ≤ 10 ^ (nDigits (n + d) - 1) := Nat.pow_le_pow_right (by decide) (by omega)
      omega
  · right
    have hp : 10 ^ (d + 1) = 10 ^ d * 10 := Nat.pow_succ ..
    exact ⟨nDigits_unique d _ (by omega) (by omega), nDigits_unique d _ (by omega) (by omega)⟩

theorem plen_eq (n : Nat) : plen n = n + nDigits (plen n) := by
  unfold plen
  rcases nDigits_next n with h | ⟨h1, h2⟩
  · rw [if_pos h, h]
  · rw [if_neg (by omega), h2]; omega

theorem plen_le (n : Nat) : n < plen n ∧ plen n ≤ n + nDigits n + 1 := by
  have := nDigits_pos n
  unfold plen
  split <;> omega

/-- of two lengths that are true the less one -/
theorem plen_least (n x : Nat) (h : x = n + nDigits x) : plen n ≤ x := by
  have h1 := nDigits_mono n x (by omega)
  unfold plen
  split
  · omega
  · rename_i c
    rcases nDigits_next n with h2 | ⟨h2, h3⟩
    · exact absurd h2 c
    · by_cases e : nDigits x = nDigits n
      · exfalso
        rw [e] at h
        rw [← h] at h2
        omega
      · omega

theorem nDigits_small5 (n : Nat) (h : n < 100000) : nDigits n ≤ 5 := by
  have := nDigits_mono n 99999 (by omega)
  have h2 : nDigits 99999 = 5 := nDigits_unique 4 _ (by decide) (by decide)
  omega

theorem itoa_len (n : Nat) : (itoa (n : Int)).length = nDigits n := by
  unfold itoa
  rw [if_neg (by omega)]
  rw [decDigits_length]
  simp

end Go.Proofs.YtnmmaedngdibeaaGreatDoor.X
