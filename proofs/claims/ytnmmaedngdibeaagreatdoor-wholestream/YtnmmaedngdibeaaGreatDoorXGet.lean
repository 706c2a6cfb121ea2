/-
  Contracts: pax.Get, and the law's own fits.
-/
import Derived.Test.YtnmmaedngdibeaaGreatDoorXNum
namespace Go.Proofs.YtnmmaedngdibeaaGreatDoor.X
open Go.RowKit
set_option linter.unusedVariables false
set_option linter.unusedSimpArgs false

/-- Records lie at a place: their keys and their values by index. -/
def RecsAt (w : World) (b off : Nat) (K V : Nat → ByteArray) (n : Nat) : Prop :=
  ∀ i, i < n → w.cell? ⟨b, off + i * 2, none⟩ = some (.string (K i)) ∧ w.cell? ⟨b, off + i * 2 + 1, none⟩ = some (.string (V i))

theorem RecsAt.below {w w' : World} {b off n : Nat} {K V : Nat → ByteArray} (h : RecsAt w b off K V n) (hb : Below w.heap.size w w') : RecsAt w' b off K V n := fun i hi =>
  ⟨(hb.cell (Lib.lt_of_cell (h i hi).1)).trans (h i hi).1, (hb.cell (Lib.lt_of_cell (h i hi).2)).trans (h i hi).2⟩

/-- the last record with a key -/
def lastOf (K V : Nat → ByteArray) (key : ByteArray) : Nat → ByteArray × Bool
  | 0 => (⟨#[]⟩, false)
  | i + 1 => if K i = key then (V i, true) else lastOf K V key i

set_option maxHeartbeats 1000000 in
theorem get_w (b off n cap : Nat) (K V : Nat → ByteArray) (key : ByteArray) (w : World) (hR : RecsAt w b off K V n) (hn : n ≤ 4611686018427387903) :
    Calls Tryz.prog 123 #[.slice (some ⟨b, off, none⟩) n cap, .string key] w fun e w' => e = .returned (.tuple #[.string (lastOf K V key n).1, .bool (lastOf K V key n).2]) ∧ w = w' := by
  have HR : Hid (RecsAt w b off K V n) := hR
  clear hR
  go_enter Tryz.func123, Tryz.ntmps123
  go_wp2
  go_loopw [6] (fun t wr => ∃ m : Nat, m ≤ n ∧ t = .int .i64 ((m : Int) - 1) ∧ Hid (lastOf K V key n = lastOf K V key m) ∧ wr = w) (fun t _ => (intOf t + 1).toNat)
  case atStart => exact ⟨n, Nat.le_refl _, rfl, rfl, rfl⟩
  case round =>
    obtain ⟨m, hm, rfl, H, rfl⟩ := hrel
    cases m with
    | zero =>
      go_wp2
      go_ret2
      have h := H.out
      simp only [lastOf] at h
      exact ⟨by rw [h]; rfl, rfl⟩
    | succ i =>
      have e1 : ((i + 1 : Nat) : Int) - 1 = i := by omega
      rw [e1]
      have hc := HR.out i (by omega)
      obtain ⟨hc0, hc1⟩ := hc
      by_cases c : K i = key
      · rw [c] at hc0
        go_wp2
        go_ret2
        have h := H.out
        simp only [lastOf, c, if_true] at h
        exact ⟨by rw [h]; rfl, rfl⟩
      · have c' := ne_list c
        go_wp2
        go_roundw
        case rel => exact ⟨i, by omega, by simp, by have h := H.out; simp only [lastOf, c, if_false] at h; exact h, by first | rfl | trivial⟩
        case measure => simp [intOf]

theorem get_none (ad : Option Addr) (cap : Nat) (key : ByteArray) (w : World) :
    Calls Tryz.prog 123 #[.slice ad 0 cap, .string key] w fun e w' => e = .returned (.tuple #[.string ⟨#[]⟩, .bool false]) ∧ w = w' := by
  go_enter Tryz.func123, Tryz.ntmps123
  go_wp2_with fail
  refine wp_loop_rounds 1 ?_
  rw [rounds_succ]
  go_wp2
  go_ret2
  exact ⟨rfl, rfl⟩

/-- how many bytes the first records have -/
def tot (K V : Nat → ByteArray) : Nat → Nat
  | 0 => 0
  | i + 1 => tot K V i + ((K i).size + (V i).size)

/-- is it a size with which this is tried? -/
def okTo (K V : Nat → ByteArray) : Nat → Prop
  | 0 => True
  | i + 1 => okTo K V i ∧ (K i).size ≤ 5000 ∧ (V i).size ≤ 5000 ∧ tot K V (i + 1) ≤ 20000

instance (K V : Nat → ByteArray) : (i : Nat) → Decidable (okTo K V i)
  | 0 => isTrue trivial
  | i + 1 => by
    have := instDecidableOkTo K V i
    unfold okTo
    infer_instance

theorem okTo_le {K V : Nat → ByteArray} : ∀ {i j : Nat}, i ≤ j → okTo K V j → okTo K V i
  | i, 0, h, hj => by obtain rfl : i = 0 := by omega
                      exact hj
  | i, j + 1, h, hj => by
    by_cases e : i = j + 1
    · subst e; exact hj
    · exact okTo_le (by omega) hj.1

theorem okTo_tot {K V : Nat → ByteArray} : ∀ {i : Nat}, okTo K V i → tot K V i ≤ 20000
  | 0, _ => by simp [tot]
  | i + 1, h => h.2.2.2

end Go.Proofs.YtnmmaedngdibeaaGreatDoor.X
