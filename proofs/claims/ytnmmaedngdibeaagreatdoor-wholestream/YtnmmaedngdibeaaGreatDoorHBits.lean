/-
  Plain facts on bits: a number shifted up, and a small one 'or'ed in; the low three bits.
-/
import Derived.WalkKit
namespace Go.Proofs.YtnmmaedngdibeaaGreatDoor.H

theorem ofInt64 (x : Int) : (BitVec.ofInt 64 x).toNat = (x % 18446744073709551616).toNat := by
  simp [BitVec.toNat_ofInt]

theorem or_up (i : Nat) (hi : i = 3 ∨ i = 8) (x y : Int) (hx : x % 2 ^ i = 0) (hy0 : 0 ≤ y) (hy1 : y < 2 ^ i)
    (h0 : -9223372036854775808 ≤ x + y) (h1 : x + y ≤ 9223372036854775807) : bits .or .i64 x y = x + y := by
  have e : bits .or .i64 x y = IntKind.i64.wrap (((BitVec.ofInt 64 x).toNat ||| (BitVec.ofInt 64 y).toNat : Nat) : Int) := by
    show IntKind.i64.wrap ((BitVec.ofInt 64 x ||| BitVec.ofInt 64 y).toNat : Int) = _
    rw [BitVec.toNat_or]
  rw [e, ofInt64, ofInt64, nat_join i _ _ ?_ ?_, IntKind.wrap_i64]
  · rcases hi with rfl | rfl <;> omega
  · rcases hi with rfl | rfl <;> omega
  · rcases hi with rfl | rfl <;> omega

theorem and7 (x : Int) : bits .and .i64 x 7 = x % 8 := by
  have e : bits .and .i64 x 7 = IntKind.i64.wrap (((BitVec.ofInt 64 x).toNat &&& (BitVec.ofInt 64 7).toNat : Nat) : Int) := by
    show IntKind.i64.wrap ((BitVec.ofInt 64 x &&& BitVec.ofInt 64 7).toNat : Int) = _
    rw [BitVec.toNat_and]
  rw [e, ofInt64, ofInt64, IntKind.wrap_i64]
  have : ((7 : Int) % 18446744073709551616).toNat = 7 := by decide
  rw [this, nat_mask3]
  omega

end Go.Proofs.YtnmmaedngdibeaaGreatDoor.H
