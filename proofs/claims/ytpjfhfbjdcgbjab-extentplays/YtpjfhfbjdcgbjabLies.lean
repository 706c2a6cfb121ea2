/-
  Plain: the bytes of a content that lies in blocks.
-/
import Derived.Test.YtpjfhfbjdcgbjabApp0
namespace Go.Proofs.Ytpjfhfbjdcgbjab
open Go.RowKit
set_option linter.unusedVariables false
set_option linter.unusedSimpArgs false

/-- the block with that number is one that is held -/
def Held (ss : List Slot) (z : Int) : Prop := ∃ (i : Nat) (s : Slot), z = (i : Int) ∧ ss[i]? = some s ∧ s.holds ≠ 0

def blkB (ss : List Slot) (z : Int) : List Int := ((ss[z.toNat]?).map (·.bytes)).getD []
def bytesOf (ss : List Slot) (ids : List Int) : List Int := ids.flatMap (blkB ss)

/-- a content whose bytes are L -/
structure Lies (ss : List Slot) (ids : List Int) (L : List Int) : Prop where
  len : ids.length = need L.length
  held : ∀ z ∈ ids, Held ss z
  bytes : (bytesOf ss ids).take L.length = L

theorem blk_held {ss : List Slot} (hw : Whole ss) {z : Int} (h : Held ss z) : (blkB ss z).length = 64 := by
  obtain ⟨i, s, rfl, hs, _⟩ := h
  unfold blkB
  rw [Int.toNat_natCast, hs]
  exact hw s (mem_of_some hs)

theorem bytesOf_length {ss : List Slot} (hw : Whole ss) : ∀ (ids : List Int), (∀ z ∈ ids, Held ss z) → (bytesOf ss ids).length = 64 * ids.length
  | [], _ => rfl
  | z :: r, h => by
    have := bytesOf_length hw r (fun x hx => h x (by simp [hx]))
    unfold bytesOf at *
    rw [List.flatMap_cons, List.length_append, this, blk_held hw (h z (by simp)), List.length_cons]
    omega

theorem bytesOf_append (ss : List Slot) (a b : List Int) : bytesOf ss (a ++ b) = bytesOf ss a ++ bytesOf ss b := by
  simp [bytesOf]

/-- a part that lies within one block -/
theorem part_block {ss : List Slot} (hw : Whole ss) (ids : List Int) (hh : ∀ z ∈ ids, Held ss z) (q : Nat) (z : Int) (hz : ids[q]? = some z) (k n : Nat) (hk : k + n ≤ 64) : part (bytesOf ss ids) (64 * q + k) n = part (blkB ss z) k n := by
  have hq := (List.getElem?_eq_some_iff.1 hz).1
  have e : ids = ids.take q ++ z :: ids.drop (q + 1) := by
    have h1 : ids.drop q = z :: ids.drop (q + 1) := by
      rw [List.drop_eq_getElem_cons hq]
      congr 1
      have := hz
      rw [List.getElem?_eq_getElem hq] at this
      simpa using this
    rw [← h1, List.take_append_drop]
  have l1 : (bytesOf ss (ids.take q)).length = 64 * q := by
    rw [bytesOf_length hw _ (fun x hx => hh x (List.mem_of_mem_take hx)), List.length_take, Nat.min_eq_left (by omega)]
  have l2 : (blkB ss z).length = 64 := blk_held hw (hh z (List.mem_of_getElem? hz))
  have e2 : bytesOf ss ids = bytesOf ss (ids.take q) ++ (blkB ss z ++ bytesOf ss (ids.drop (q + 1))) := by
    conv => lhs; rw [e]
    rw [bytesOf_append]
    simp [bytesOf]
  unfold part
  rw [e2, List.drop_append, List.drop_of_length_le (by omega), List.nil_append, l1, show 64 * q + k - 64 * q = k by omega, List.drop_append_of_le_length (by omega), List.take_append_of_le_length (by rw [List.length_drop]; omega)]

theorem part_take (L : List Int) (m k n : Nat) (h : k + n ≤ m) : part (L.take m) k n = part L k n := by
  unfold part
  rw [List.drop_take, List.take_take, Nat.min_eq_left (by omega)]

/-- a part of a content within one block is that part of the block -/
theorem Lies.part {ss : List Slot} {ids L : List Int} (h : Lies ss ids L) (hw : Whole ss) (q : Nat) (z : Int) (hz : ids[q]? = some z) (k n : Nat) (hk : k + n ≤ 64) (hn : 64 * q + k + n ≤ L.length) : Go.Proofs.Ytpjfhfbjdcgbjab.part (blkB ss z) k n = Go.Proofs.Ytpjfhfbjdcgbjab.part L (64 * q + k) n := by
  rw [← part_block hw ids h.held q z hz k n hk]
  conv => rhs; rw [← h.bytes]
  rw [part_take _ _ _ _ hn]

theorem part_add (L : List Int) (k a b : Nat) : part L k (a + b) = part L k a ++ part L (k + a) b := by
  unfold part
  rw [List.take_add, List.drop_drop]

end Go.Proofs.Ytpjfhfbjdcgbjab
