/-
  The document's Decode: the words.
-/
import Derived.Test.YtojbfdlgjjghjaaDoorKKz
import Derived.Deep.DeepCutAuto
import Derived.Deep.CutBlock
namespace Go.Proofs.YtojbfdlgjjghjaaDoor.K
open Go.RowKit
open Go.Lib hiding intOf
set_option linter.unusedVariables false
set_option linter.unusedSimpArgs false

/-- the words are unlike each other -/
theorem kind_iff (t : ByteArray) (j : Nat) (h1 : 1 ≤ j) (h2 : j ≤ 11) : wd j = t ↔ kindP t = j := by
  constructor
  · intro e
    rw [← e]
    exact (kind_wd j ⟨h1, h2⟩).1
  · intro e
    have : ∀ (f k : Nat), kindFrom f k t = j → wd j = t := by
      intro f
      induction f with
      | zero => intro k h; unfold kindFrom at h; omega
      | succ f ih =>
        intro k h
        unfold kindFrom at h
        split at h
        · rename_i hw
          rw [← h]; exact hw
        · exact ih _ h
    exact this 11 1 e
/-- the kind that the document's loop has found ahead of a row -/
def kTo (t : ByteArray) (i : Nat) : Int := if kindP t ≤ i then (kindP t : Int) else 0
theorem kTo_0 (t : ByteArray) : kTo t 0 = 0 := by unfold kTo; split <;> omega
theorem kTo_11 (t : ByteArray) : kTo t 11 = kindP t := by unfold kTo; rw [if_pos (kindP_le t)]
theorem kTo_hit (t : ByteArray) (i : Nat) (hi : i < 11) (h : wd (i + 1) = t) : kTo t (i + 1) = (i : Int) + 1 := by
  have := (kind_iff t (i + 1) (by omega) (by omega)).mp h
  unfold kTo
  rw [if_pos (by omega), this]
  omega
theorem kTo_miss (t : ByteArray) (i : Nat) (hi : i < 11) (h : ¬ wd (i + 1) = t) : kTo t (i + 1) = kTo t i := by
  have : ¬ kindP t = i + 1 := fun e => h ((kind_iff t (i + 1) (by omega) (by omega)).mpr e)
  unfold kTo
  by_cases c : kindP t ≤ i
  · rw [if_pos c, if_pos (by omega)]
  · rw [if_neg c, if_neg (by omega)]
end Go.Proofs.YtojbfdlgjjghjaaDoor.K
