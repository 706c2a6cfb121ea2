/-
  Contracts: pax.Check, over strings.ContainsAny.
-/
import Derived.Test.YtnmmaedngdibeaaGreatDoorXGet
namespace Go.Proofs.YtnmmaedngdibeaaGreatDoor.X
open Go.RowKit
set_option linter.unusedVariables false
set_option linter.unusedSimpArgs false

def chars3 : ByteArray := ⟨#[61, 0, 10]⟩

/-- has a key a byte that it may not have? -/
def badKey (k : ByteArray) : Bool := Lib.containsAny k.data.toList [61, 0, 10]

/-- strings.ContainsAny answers so at a key -/
def Cany (k : ByteArray) : Prop := ∀ W, Calls Tryz.prog 52 #[.string k, .string ⟨#[61, 0, 10]⟩] W fun e w' => e = .returned (.bool (badKey k)) ∧ Below W.heap.size W w'

theorem cany_ascii (k : ByteArray) (hs : k.size < 4294967281) (ha : ∀ (j : Nat) b, k.data.toList[j]? = some b → b.toNat < 128) : Cany k := fun W =>
  Tryz.strings_ContainsAny (fun w => by kernel_rfl) k ⟨#[61, 0, 10]⟩ W hs (by decide) ha (by
    intro j b h
    match j, h with
    | 0, h => cases h; decide
    | 1, h => cases h; decide
    | 2, h => cases h; decide
    | j + 3, h => simp at h)

/-- the error of a record -/
def chk (k v : ByteArray) : Int := if k.size = 0 ∨ badKey k = true then 70 else if 4096 < k.size + v.size then 2 else 0

theorem size_zero {k : ByteArray} (h : k.size = 0) : k = ⟨#[]⟩ := by
  cases k with
  | mk d =>
    congr 1
    exact Array.eq_empty_of_size_eq_zero h

set_option maxHeartbeats 1000000 in
theorem check_w (k v : ByteArray) (hk : k.size ≤ 281474976710656) (hv : v.size ≤ 281474976710656) (hc : Cany k) (w : World) :
    Calls Tryz.prog 35 #[.agg #[.string k, .string v]] w fun e w' => e = .returned (.int .i64 (chk k v)) ∧ Below w.heap.size w w' := by
  have q : ∀ W, Calls Tryz.prog 52 #[.string k, .string ⟨#[61, 0, 10]⟩] W fun e w' => e = .returned (.bool (badKey k)) ∧ Below W.heap.size W w' := hc
  unfold chk
  by_cases c0 : k.size = 0
  · obtain rfl := size_zero c0
    rw [if_pos (.inl c0)]
    clear hc q
    go_enter Tryz.func35, Tryz.ntmps35
    go_wp2
    go_ret
    exact ⟨rfl, by first | exact (Below.refl _ _).alloc (Nat.le_refl _) _⟩
  · have c0' : k.toList.isEmpty = false := by
      rw [Lib.toList_data]
      cases h : k.data.toList with
      | nil => have := Lib.size_eq k; rw [h, List.length_nil] at this; omega
      | cons _ _ => rfl
    have wa : ∀ W, Below (w.alloc (.cells #[.string k, .string v] 59)).heap.size (w.alloc (.cells #[.string k, .string v] 59)) W → W.cell? ⟨w.heap.size, 0, none⟩ = some (.string k) ∧ W.cell? ⟨w.heap.size, 1, none⟩ = some (.string v) ∧ Below w.heap.size w W := by
      intro W hb
      have hlt : w.heap.size < (w.alloc (.cells #[.string k, .string v] 59)).heap.size := by simp
      refine ⟨(hb.cell (p := ⟨w.heap.size, 0, none⟩) hlt).trans (by simp), (hb.cell (p := ⟨w.heap.size, 1, none⟩) hlt).trans (by simp), ?_⟩
      exact ((Below.refl w.heap.size w).alloc (Nat.le_refl _) _).trans (hb.mono (Nat.le_of_lt hlt))
    have HA : Hid (∀ W, Below (w.alloc (.cells #[.string k, .string v] 59)).heap.size (w.alloc (.cells #[.string k, .string v] 59)) W → W.cell? ⟨w.heap.size, 0, none⟩ = some (.string k) ∧ W.cell? ⟨w.heap.size, 1, none⟩ = some (.string v) ∧ Below w.heap.size w W) := wa
    clear wa
    cases hb : badKey k with
    | true =>
      rw [if_pos (.inr rfl)]
      rw [hb] at q
      go_enter Tryz.func35, Tryz.ntmps35
      go_wp2_with (go_at_call 52; refine (q _).mono ?_; rintro e w1 ⟨rfl, b1⟩; obtain ⟨g0, g1, g2⟩ := HA.out _ b1)
      go_ret
      exact ⟨rfl, g2⟩
    | false =>
      rw [if_neg (by simp [c0])]
      rw [hb] at q
      by_cases c : 4096 < k.size + v.size
      · rw [if_pos c]
        go_enter Tryz.func35, Tryz.ntmps35
        go_wp2_with (go_at_call 52; refine (q _).mono ?_; rintro e w1 ⟨rfl, b1⟩; obtain ⟨g0, g1, g2⟩ := HA.out _ b1)
        go_ret
        exact ⟨rfl, g2⟩
      · rw [if_neg c]
        go_enter Tryz.func35, Tryz.ntmps35
        go_wp2_with (go_at_call 52; refine (q _).mono ?_; rintro e w1 ⟨rfl, b1⟩; obtain ⟨g0, g1, g2⟩ := HA.out _ b1)
        go_ret
        exact ⟨rfl, g2⟩

end Go.Proofs.YtnmmaedngdibeaaGreatDoor.X
