/-
  Plain: what the document's number says.
-/
import Derived.Test.YtojbfdlgjjghjaaDoorKKu
namespace Go.Proofs.YtojbfdlgjjghjaaDoor.K
open Go.RowKit
open Go.Lib hiding intOf
set_option linter.unusedVariables false
set_option linter.unusedSimpArgs false

theorem dv_cons (a : Nat) (x : UInt8) (l : List UInt8) : dv a (x :: l) = dv (10 * a + (x.toNat - 48)) l := by
  unfold dv
  rw [List.foldl_cons]
theorem dv_low (l : List UInt8) : ∀ (a : Nat), a * 10 ^ l.length ≤ dv a l := by
  induction l with
  | nil => intro a; simp [dv]
  | cons x l ih =>
    intro a
    rw [dv_cons, List.length_cons]
    have h1 := ih (10 * a + (x.toNat - 48))
    have h2 : a * 10 ^ (l.length + 1) = (10 * a) * 10 ^ l.length := by rw [Nat.pow_succ, Nat.mul_comm (10 ^ l.length) 10, ← Nat.mul_assoc, Nat.mul_comm a 10]
    have h3 : (10 * a) * 10 ^ l.length ≤ (10 * a + (x.toNat - 48)) * 10 ^ l.length := Nat.mul_le_mul_right _ (by omega)
    generalize dv (10 * a + (x.toNat - 48)) l = D at *
    generalize 10 ^ l.length = P at *
    generalize a * 10 ^ (l.length + 1) = Q at *
    exact h2 ▸ Nat.le_trans h3 h1
theorem dv_high : ∀ (l : List UInt8) (a : Nat), (∀ x ∈ l, 48 ≤ x.toNat ∧ x.toNat ≤ 57) → dv a l < (a + 1) * 10 ^ l.length
  | [], a, _ => by simp [dv]
  | x :: l, a, h => by
    rw [dv_cons]
    have hx := h x (by simp)
    refine Nat.lt_of_lt_of_le (dv_high l _ fun y hy => h y (by simp [hy])) ?_
    rw [List.length_cons, Nat.pow_succ, show (a + 1) * (10 ^ l.length * 10) = (10 * (a + 1)) * 10 ^ l.length by rw [Nat.mul_comm (10 ^ l.length) 10, ← Nat.mul_assoc, Nat.mul_comm (a + 1) 10]]
    exact Nat.mul_le_mul_right _ (by omega)
theorem dv_lex : ∀ (a b : List UInt8) (n : Nat), a.length = b.length → (∀ x ∈ a, 48 ≤ x.toNat ∧ x.toNat ≤ 57) → (∀ x ∈ b, 48 ≤ x.toNat ∧ x.toNat ≤ 57) → (a < b ↔ dv n a < dv n b)
  | [], [], n, _, _, _ => by simp
  | [], _ :: _, n, h, _, _ => by simp at h
  | _ :: _, [], n, h, _, _ => by simp at h
  | x :: a, y :: b, n, h, ha, hb => by
    have hx := ha x (by simp)
    have hy := hb y (by simp)
    have ha' : ∀ z ∈ a, 48 ≤ z.toNat ∧ z.toNat ≤ 57 := fun z hz => ha z (by simp [hz])
    have hb' : ∀ z ∈ b, 48 ≤ z.toNat ∧ z.toNat ≤ 57 := fun z hz => hb z (by simp [hz])
    have hl : a.length = b.length := by simpa using h
    rw [List.cons_lt_cons_iff, dv_cons, dv_cons]
    rcases Nat.lt_trichotomy x.toNat y.toNat with c | c | c
    · have h1 := dv_high a (10 * n + (x.toNat - 48)) ha'
      have h2 := dv_low b (10 * n + (y.toNat - 48))
      have h3 : (10 * n + (x.toNat - 48) + 1) * 10 ^ a.length ≤ (10 * n + (y.toNat - 48)) * 10 ^ b.length := by rw [hl]; exact Nat.mul_le_mul_right _ (by omega)
      exact ⟨fun _ => by omega, fun _ => .inl (UInt8.lt_iff_toNat_lt.mpr c)⟩
    · obtain rfl : x = y := UInt8.toNat_inj.mp c
      have := dv_lex a b (10 * n + (x.toNat - 48)) hl ha' hb'
      rw [← this]
      exact ⟨fun q => by
        rcases q with q | q
        · exact absurd (UInt8.lt_iff_toNat_lt.mp q) (by omega)
        · exact q.2, fun q => .inr ⟨rfl, q⟩⟩
    · have h1 := dv_high b (10 * n + (y.toNat - 48)) hb'
      have h2 := dv_low a (10 * n + (x.toNat - 48))
      have h3 : (10 * n + (y.toNat - 48) + 1) * 10 ^ b.length ≤ (10 * n + (x.toNat - 48)) * 10 ^ a.length := by rw [hl]; exact Nat.mul_le_mul_right _ (by omega)
      refine ⟨fun q => ?_, fun q => by omega⟩
      rcases q with q | q
      · exact absurd (UInt8.lt_iff_toNat_lt.mp q) (by omega)
      · rw [q.1] at c; omega

/-! ### numP -/

theorem numP_200 {s : ByteArray} (h : ∀ n : Nat, n ≤ 9223372036854775807 → ¬ Lib.decDigits n = s.data.toList) : numP s = .inl 200 := by
  unfold numP
  cases hv : nval s with
  | none => rfl
  | some v =>
    simp only
    by_cases c : v < 0
    · rw [if_pos c]
    · exfalso
      obtain ⟨n, rfl⟩ : ∃ n : Nat, v = n := ⟨v.toNat, by omega⟩
      have hr : (n : Int) ≤ 9223372036854775807 := by
        unfold nval at hv
        split at hv
        · rename_i v' hv'
          split at hv
          · cases hv; exact (parseIntB_range _ _ hv').2
          · cases hv
        · cases hv
      have := nval_spelt hv
      rw [num_eq, itoa_nat] at this
      exact h n (by omega) this
/-- digits spelt as a number is -/
def Can (l : List UInt8) : Prop := l ≠ [] ∧ (l.length = 1 ∨ l.head? ≠ some 48) ∧ ∀ x ∈ l, 48 ≤ x.toNat ∧ x.toNat ≤ 57
theorem Can.dec {l : List UInt8} (h : Can l) : Lib.decDigits (dv 0 l) = l := by
  cases l with
  | nil => exact absurd rfl h.1
  | cons c r =>
    have hc := h.2.2 c (by simp)
    by_cases h9 : 49 ≤ c.toNat
    · exact dec_of_dv c h9 r.length r rfl h.2.2
    · obtain rfl : c = 48 := UInt8.toNat_inj.mp (by rw [show (48 : UInt8).toNat = 48 from rfl]; omega)
      rcases h.2.1 with q | q
      · obtain rfl : r = [] := List.eq_nil_of_length_eq_zero (by simpa using q)
        rw [show dv 0 [48] = 0 from rfl, Lib.decDigits, dif_pos (by omega)]
        rfl
      · exact absurd rfl q
theorem can_dec (n : Nat) : Can (Lib.decDigits n) := by
  refine ⟨dec_ne n, ?_, dig_range n⟩
  by_cases h : (Lib.decDigits n).head? = some 48
  · have := dec_head n h
    subst this
    exact .inl (by rw [Lib.decDigits, dif_pos (by omega)]; rfl)
  · exact .inr h
theorem numP_can {s : ByteArray} (h : Can s.data.toList) : numP s = if 9223372036854775807 < dv 0 s.data.toList then .inl 200 else if 1048576 < dv 0 s.data.toList then .inl 1 else .inr (dv 0 s.data.toList : Int) := by
  have hd := h.dec
  split
  · rename_i c
    refine numP_200 fun n hn e => ?_
    have := dv_dec n
    rw [e] at this
    omega
  · rename_i c
    have e : num (dv 0 s.data.toList : Int) = s := by rw [num_eq, itoa_nat]; exact hd
    have := numP_num (dv 0 s.data.toList) (by omega)
    rw [e] at this
    rw [this]
    by_cases q : 1048576 < dv 0 s.data.toList
    · rw [if_pos q, if_pos (by omega)]
    · rw [if_neg q, if_neg (by omega)]
theorem numP_not {s : ByteArray} (h : ¬ Can s.data.toList) : numP s = .inl 200 :=
  numP_200 fun n _ e => h (e ▸ can_dec n)
end Go.Proofs.YtojbfdlgjjghjaaDoor.K
