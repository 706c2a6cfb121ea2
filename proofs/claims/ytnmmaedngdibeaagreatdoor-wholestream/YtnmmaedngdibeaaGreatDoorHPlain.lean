/-
  Plain facts on octal digits: no Go in sight. 'odig n': how many octal digits n has (one for 0).
-/
import Derived.Lib.BitFns
namespace Go.Proofs.YtnmmaedngdibeaaGreatDoor.H

theorem bitLen_le_iff : ∀ (k n : Nat), n < 2 ^ 64 → (Lib.bitLen n ≤ k ↔ n < 2 ^ k)
  | 0, n, h => by
    by_cases h0 : n = 0
    · subst h0; decide
    · rw [Lib.bitLen_half n h0 h]; simp; omega
  | k + 1, n, h => by
    by_cases h0 : n = 0
    · subst h0
      have : Lib.bitLen 0 = 0 := by decide
      rw [this]; simp [Nat.two_pow_pos]
    · rw [Lib.bitLen_half n h0 h]
      have := bitLen_le_iff k (n / 2) (by omega)
      rw [Nat.pow_succ]; omega

def odig (n : Nat) : Nat := max 1 ((Lib.bitLen n + 2) / 3)

theorem odig_le_iff (k n : Nat) (hk : 1 ≤ k) (h : n < 2 ^ 64) : odig n ≤ k ↔ n < 8 ^ k := by
  have e : (8 : Nat) ^ k = 2 ^ (3 * k) := by rw [Nat.pow_mul]
  rw [e, ← bitLen_le_iff (3 * k) n h]
  unfold odig; omega

def fitsB (n w : Int) : Bool := decide (0 ≤ n ∧ 2 ≤ w ∧ (odig n.toNat : Int) < w)

theorem bitLen_le64 (n : Nat) (h : n < 2 ^ 64) : Lib.bitLen n ≤ 64 := (bitLen_le_iff 64 n h).2 h

theorem fits_iff (n w : Int) (hn : n ≤ 9223372036854775807) (hw : 2 ≤ w) : fitsB n w = true ↔ 0 ≤ n ∧ n < 8 ^ (w - 1).toNat := by
  unfold fitsB
  rw [decide_eq_true_iff]
  by_cases h0 : 0 ≤ n
  · have := odig_le_iff (w - 1).toNat n.toNat (by omega) (by omega)
    have e : ((8 : Int) ^ (w - 1).toNat) = ((8 ^ (w - 1).toNat : Nat) : Int) := by simp
    rw [e]
    constructor
    · rintro ⟨_, _, h⟩
      exact ⟨h0, by have := this.1 (by omega); omega⟩
    · rintro ⟨_, h⟩
      exact ⟨h0, hw, by have := this.2 (by omega); omega⟩
  · simp [h0]

end Go.Proofs.YtnmmaedngdibeaaGreatDoor.H
