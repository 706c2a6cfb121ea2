/-
  The plain reading of a field, byte by byte, as the program does it: no Go in sight.
-/
namespace Go.Proofs.YtnmmaedngdibeaaGreatDoor.H

/-- One step of the reading of octal digits: the number so far, the part (0 ahead, 1 within, 2 behind), the next byte. -/
def dstep (n p b : Int) : Option (Int × Int) :=
  if b = 32 ∧ p = 0 then some (n, 0)
  else if (48 ≤ b ∧ b ≤ 55) ∧ ¬ p = 2 then (if 1152921504606846975 < n then none else some (8 * n + (b - 48), 1))
  else if b = 32 ∨ b = 0 then some (n, 2)
  else none

def dgo : List Int → Int → Int → Option Int
  | [], n, _ => some n
  | b :: r, n, p => match dstep n p b with | none => none | some (m, q) => dgo r m q

/-- One step of the reading of bytes to the base 256. -/
def bgo : List Int → Int → Option Int
  | [], n => some n
  | b :: r, n => if n < -36028797018963968 ∨ 36028797018963967 < n then none else bgo r (256 * n + b)

def parseO : List Int → Option Int
  | [] => some 0
  | b :: r => if b < 128 then dgo (b :: r) 0 0 else if b = 128 then bgo r 0 else if b = 255 then bgo r (-1) else none

def resN (o : Option Int) : Int := o.getD 0
def resE (o : Option Int) : Int := if o.isSome then 0 else 20

theorem drop_cons (zs : List Int) (k : Nat) (h : k < zs.length) : zs.drop k = zs[k]?.getD 0 :: zs.drop (k + 1) := by
  rw [List.drop_eq_getElem_cons h]; simp [h]

end Go.Proofs.YtnmmaedngdibeaaGreatDoor.H
