/-
  Plain: octal digits written and read again.
-/
import Derived.Test.YtamdonhmholjpabPlain
import Derived.Test.YtamdonhmholjpabPd
import Derived.Test.YtamdonhmholjpabLess
namespace Go.Proofs.Ytamdonhmholjpab

theorem octs_zero (j : Nat) : octs 0 j = List.replicate j 48 := by
  induction j with
  | zero => rfl
  | succ j ih => rw [octs, List.replicate_succ', show (0 : Int) / 8 = 0 from rfl, ih]; rfl

theorem octs_pad (m : Nat) : ∀ (n : Int) (j : Nat), 0 ≤ n → n < 8 ^ m → octs n (j + m) = List.replicate j 48 ++ octs n m := by
  induction m with
  | zero =>
    intro n j h0 h1
    have : n = 0 := by simp at h1; omega
    subst this
    simp [octs, octs_zero]
  | succ m ih =>
    intro n j h0 h1
    rw [Int.pow_succ] at h1
    rw [← Nat.add_assoc, octs, octs, ih (n / 8) j (by omega) (by omega), List.append_assoc]

theorem octs_one_more (n : Int) (m : Nat) (h0 : 0 ≤ n) (h1 : n < 8 ^ m) : octs n (m + 1) = 48 :: octs n m := by
  rw [Nat.add_comm, octs_pad m n 1 h0 h1]; rfl

theorem odig_pos (n : Nat) : 1 ≤ odig n := by unfold odig; omega

theorem odig_lt (n : Nat) (h : n < 2 ^ 64) : n < 8 ^ odig n := (odig_le_iff (odig n) n (odig_pos n) h).1 (Nat.le_refl _)

theorem odig_lt' (n : Int) (h0 : 0 ≤ n) (h1 : n ≤ 9223372036854775807) : n < 8 ^ odig n.toNat := by
  have h := odig_lt n.toNat (by omega)
  have e : ((8 : Int) ^ odig n.toNat) = ((8 ^ odig n.toNat : Nat) : Int) := by simp
  rw [e]; omega

theorem lt_pow_of (n : Int) (m : Nat) (h0 : 0 ≤ n) (h1 : n ≤ 9223372036854775807) (h : odig n.toNat ≤ m) : n < 8 ^ m := by
  have h := (odig_le_iff m n.toNat (Nat.le_trans (odig_pos _) h) (by omega)).1 h
  have e : ((8 : Int) ^ m) = ((8 ^ m : Nat) : Int) := by simp
  rw [e]; omega

theorem odig_small (n : Nat) (h : n ≤ 7) : odig n = 1 := by
  have h1 := (odig_le_iff 1 n (by omega) (by omega)).2 (by omega)
  have h2 := odig_pos n
  omega

theorem odig_succ (n : Nat) (h : 7 < n) (h64 : n < 2 ^ 64) : odig n = odig (n / 8) + 1 := by
  have s := Lib.bitLen_shift 3 n (by omega) h64
  have p : 1 ≤ Lib.bitLen (n / 8) := by
    by_cases c : Lib.bitLen (n / 8) ≤ 0
    · have := (bitLen_le_iff 0 (n / 8) (by omega)).1 c; omega
    · omega
  unfold odig
  rw [s, show n / 2 ^ 3 = n / 8 from rfl]
  omega

theorem odig_le22 (n : Int) (h0 : 0 ≤ n) (h1 : n ≤ 9223372036854775807) : odig n.toNat ≤ 21 := (odig_le_iff 21 n.toNat (by omega) (by omega)).2 (by omega)

theorem dgo_octs (m : Nat) : ∀ (n p : Int) (r : List Int), ¬ p = 2 → 0 ≤ n → n < 8 ^ (m + 1) → n ≤ 9223372036854775807 → dgo (octs n (m + 1) ++ r) 0 p = dgo r n 1 := by
  induction m with
  | zero =>
    intro n p r hp h0 h1 h2
    have h1 : n < 8 := by simpa using h1
    have e : octs n (0 + 1) = [48 + n] := by simp [octs]; omega
    rw [e]
    simp only [List.cons_append, List.nil_append, dgo, dstep]
    rw [if_neg (by omega), if_pos ⟨by omega, hp⟩, if_neg (by omega)]
    simp only [Int.mul_zero, Int.zero_add]
    rw [show 48 + n - 48 = n by omega]
  | succ m ih =>
    intro n p r hp h0 h1 h2
    rw [Int.pow_succ] at h1
    rw [octs, List.append_assoc, ih (n / 8) p _ hp (by omega) (by omega) (by omega)]
    simp only [List.cons_append, List.nil_append, dgo, dstep]
    rw [if_neg (by omega), if_pos ⟨by omega, by omega⟩, if_neg (by omega)]
    simp only []
    rw [show 8 * (n / 8) + (48 + n % 8 - 48) = n by omega]

theorem octs_cons (n : Int) (m : Nat) : ∃ z t, octs n (m + 1) = z :: t ∧ 48 ≤ z ∧ z ≤ 55 := by
  cases h : octs n (m + 1) with
  | nil => have := octs_length n (m + 1); rw [h] at this; simp at this
  | cons z t => exact ⟨z, t, rfl, octs_mem n (m + 1) z (by rw [h]; simp)⟩

theorem parseO_octs (n : Int) (m : Nat) (r : List Int) (h0 : 0 ≤ n) (h1 : n < 8 ^ (m + 1)) (h2 : n ≤ 9223372036854775807) : parseO (octs n (m + 1) ++ r) = dgo r n 1 := by
  have d := dgo_octs m n 0 r (by decide) h0 h1 h2
  obtain ⟨z, t, e, z0, z1⟩ := octs_cons n m
  rw [e] at d ⊢
  simp only [List.cons_append, parseO] at d ⊢
  rw [if_pos (by omega), d]

theorem parseO_field (n : Int) (m : Nat) (h0 : 0 ≤ n) (h1 : n < 8 ^ (m + 1)) (h2 : n ≤ 9223372036854775807) : parseO (octs n (m + 1) ++ [0]) = some n := by
  rw [parseO_octs n m [0] h0 h1 h2]; simp [dgo, dstep]

theorem strOf_size (ns : List Int) : (strOf ns).size = ns.length := by
  have := strOf_toList ns
  rw [ByteArray.toList_eq] at this
  have h := congrArg List.length this
  rw [u8s, List.length_map, Array.length_toList] at h
  exact h

theorem strOf_ext (s : ByteArray) (ns : List Int) (h : s.data.toList = u8s ns) : s = strOf ns := by
  have := strOf_toList ns
  rw [ByteArray.toList_eq] at this
  rw [← this] at h
  cases s; cases hs : strOf ns
  rw [hs] at h
  simp at h
  rw [h]

theorem strOf_append (x y : List Int) : strOf x ++ strOf y = strOf (x ++ y) := by
  apply strOf_ext
  have e : ∀ a b : ByteArray, (a ++ b).data.toList = a.data.toList ++ b.data.toList := fun a b => by simp
  have h1 := strOf_toList x
  have h2 := strOf_toList y
  rw [ByteArray.toList_eq] at h1 h2
  rw [e, h1, h2]
  simp [u8s]

end Go.Proofs.Ytamdonhmholjpab
