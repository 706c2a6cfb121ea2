/-
  Plain: a number's octal digits as bytes, the greatest first; as a row of cells.
-/
import Derived.WalkKit
namespace Go.Proofs.YtnmmaedngdibeaaGreatDoor.H

/-- The last k octal digits of n, as bytes. -/
def octs : Int → Nat → List Int
  | _, 0 => []
  | n, k + 1 => octs (n / 8) k ++ [48 + n % 8]

theorem octs_length (n : Int) (k : Nat) : (octs n k).length = k := by
  induction k generalizing n with
  | zero => rfl
  | succ k ih => simp [octs, ih]

theorem octs_mem (n : Int) (k : Nat) : ∀ z ∈ octs n k, 48 ≤ z ∧ z ≤ 55 := by
  induction k generalizing n with
  | zero => simp [octs]
  | succ k ih =>
    intro z hz
    simp only [octs, List.mem_append, List.mem_singleton] at hz
    rcases hz with hz | rfl
    · exact ih _ z hz
    · omega

/-- A list of bytes as the cells of a block. -/
def row (cs : List Int) : Array Value := (cs.map (Value.int .u8)).toArray

theorem row_size (cs : List Int) : (row cs).size = cs.length := by simp [row]
theorem row_get (cs : List Int) (j : Nat) (h : j < cs.length) : (row cs)[j]? = some (.int .u8 (cs[j]?.getD 0)) := by
  simp [row, h]
theorem row_set (cs : List Int) (j : Nat) (v : Int) : (row cs).setIfInBounds j (.int .u8 v) = row (cs.set j v) := by
  simp [row, List.map_set]

theorem made_row (k : Nat) : madeCells #[Value.int .u8 0] k = row (List.replicate k 0) := by
  simp only [madeCells, row]
  apply Array.ext
  · simp
  · intro i h1 h2
    simp [Nat.mod_one]

theorem rep_set (j : Nat) (d : Int) (t : List Int) : (List.replicate (j + 1) 0 ++ t).set j d = List.replicate j 0 ++ d :: t := by
  rw [List.replicate_succ', List.append_assoc, List.set_append_right _ _ (by simp)]
  simp

end Go.Proofs.YtnmmaedngdibeaaGreatDoor.H
