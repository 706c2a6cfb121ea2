/-
  The head of the laws: a record is written and read.
-/
import Derived.Test.YtebnekkdkifgjabDoorRound
namespace Go.Proofs.YtebnekkdkifgjabDoor
open Go.RowKit
set_option linter.unusedVariables false
set_option linter.unusedSimpArgs false

theorem own_bytesAt {B : Nat} {w : World} {v : Value} {bs : List UInt8} (h : w.ownsRow B 5 1 v bs.length (Lib.byteCells bs)) (h0 : 0 < bs.length) :
    ∃ g cap, v = .slice (some ⟨g, 0, none⟩) bs.length cap ∧ BytesAt w g 0 bs ∧ bs.length ≤ cap ∧ cap ≤ 9223372036854775807 ∧ B ≤ g ∧ g < w.heap.size := by
  rcases h.2 with ⟨_, hn⟩ | ⟨g, cap, cur, hv, hb, hg, hc, hm, hsz, htk⟩
  · omega
  · unfold maxLen at hm
    refine ⟨g, cap, hv, ?_, hc, by omega, hb, (Array.getElem?_eq_some_iff.1 hg).1⟩
    intro i hi
    have : cur[i]? = some (.int .u8 ((bs.getD i 0).toNat : Int)) := by
      have h1 : (Lib.byteCells bs)[i]? = some (.int .u8 ((bs.getD i 0).toNat : Int)) := by
        simp [Lib.byteCells, List.getElem?_eq_getElem hi, List.getD]
      rw [← htk, List.getElem?_take] at h1
      split at h1
      · simpa using h1
      · cases h1
    simp only [World.cell?]
    rw [hg]
    simpa using this

def kOf (rs : List Rec) (i : Nat) : ByteArray := (rs.getD i (⟨#[]⟩, ⟨#[]⟩)).1
def vOf (rs : List Rec) (i : Nat) : ByteArray := (rs.getD i (⟨#[]⟩, ⟨#[]⟩)).2

theorem recCells_get : ∀ (rs : List Rec) (i : Nat), i < rs.length → (recCells rs)[i * 2]? = some (.string (kOf rs i)) ∧ (recCells rs)[i * 2 + 1]? = some (.string (vOf rs i))
  | [], i, h => absurd h (Nat.not_lt_zero _)
  | r :: rs, 0, _ => by simp [recCells, kOf, vOf]
  | r :: rs, i + 1, h => by
    have ih := recCells_get rs i (by simpa using h)
    have e : recCells (r :: rs) = .string r.1 :: .string r.2 :: recCells rs := by simp [recCells]
    rw [e, show (i + 1) * 2 = i * 2 + 1 + 1 by omega]
    simpa [kOf, vOf] using ih

theorem own_recsAt {B : Nat} {w : World} {v : Value} {rs : List Rec} (h : w.ownsRow B 29 2 v rs.length (recCells rs)) (h0 : 0 < rs.length) :
    ∃ g cap, v = .slice (some ⟨g, 0, none⟩) rs.length cap ∧ RecsAt w g 0 (kOf rs) (vOf rs) rs.length ∧ rs.length ≤ cap ∧ cap ≤ 9223372036854775807 ∧ B ≤ g ∧ g < w.heap.size := by
  rcases h.2 with ⟨_, hn⟩ | ⟨g, cap, cur, hv, hb, hg, hc, hm, hsz, htk⟩
  · omega
  · unfold maxLen at hm
    refine ⟨g, cap, hv, ?_, hc, by omega, hb, (Array.getElem?_eq_some_iff.1 hg).1⟩
    have key : ∀ (j : Nat) u, (recCells rs)[j]? = some u → cur[j]? = some u := by
      intro j u h1
      rw [← htk, List.getElem?_take] at h1
      split at h1
      · simpa using h1
      · cases h1
    intro i hi
    obtain ⟨e1, e2⟩ := recCells_get rs i hi
    have k1 := key _ _ e1
    have k2 := key _ _ e2
    constructor
    · simp only [World.cell?]
      rw [hg]
      simpa using k1
    · simp only [World.cell?]
      rw [hg]
      simpa [Nat.add_assoc] using k2


end Go.Proofs.YtebnekkdkifgjabDoor
