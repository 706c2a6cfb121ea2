/-
  The document's answer for a line: its number.
-/
import Derived.Test.YtojbfdlgjjghjaaDoorKKv
import Derived.Sort.Walk0
namespace Go.Proofs.YtojbfdlgjjghjaaDoor.K
open Go.RowKit
open Go.Lib hiding intOf
set_option linter.unusedVariables false
set_option linter.unusedSimpArgs false

/-- the document's long -/
theorem rlong_w (s : ByteArray) (hc : Can s.data.toList) (h : 18 < s.size) (w : World) :
    Calls Tryd.prog 28 #[.string s] w fun e w' => e = .returned (.int .i64 (if 9223372036854775807 < dv 0 s.data.toList then 200 else 1)) ∧ w' = w := by
  have hl : s.data.toList.length = s.size := rfl
  by_cases c : (19 : Int) < s.size
  · have hb : Hid (9223372036854775807 < dv 0 s.data.toList) := by
      have hc2 := hc
      cases hq : s.data.toList with
      | nil => exact absurd hq hc.1
      | cons x r =>
        rw [hq] at hc hl
        have hx := hc.2.2 x (by simp)
        have h1 := dv_low r (10 * 0 + (x.toNat - 48))
        rw [dv_cons]
        have hx9 : 49 ≤ x.toNat := by
          rcases hc.2.1 with q | q
          · simp at q hl; subst q; simp at hl; omega
          · have : x ≠ 48 := fun e => q (by rw [e]; rfl)
            have : ¬ x.toNat = 48 := fun e => this (UInt8.toNat_inj.mp e)
            omega
        have h2 : 10 ^ 19 ≤ 10 ^ r.length := Nat.pow_le_pow_right (by omega) (by simp at hl; omega)
        have h3 : 1 * 10 ^ r.length ≤ (10 * 0 + (x.toNat - 48)) * 10 ^ r.length := Nat.mul_le_mul_right _ (by omega)
        show 9223372036854775807 < dv (10 * 0 + (x.toNat - 48)) r
        omega
    rw [if_pos hb.out]
    clear hb hc hl h
    go_enter Tryd.func28, Tryd.ntmps28
    go_wp2_with fail
    go_ret
    exact ⟨rfl, rfl⟩
  · have c2 : (s.size : Int) = 19 := by omega
    obtain ⟨K, hK⟩ : ∃ K : ByteArray, K = ⟨#[57, 50, 50, 51, 51, 55, 50, 48, 51, 54, 56, 53, 52, 55, 55, 53, 56, 48, 55]⟩ := ⟨_, rfl⟩
    have hKl : K.data.toList.length = 19 := by rw [hK]; rfl
    have hKd : ∀ x ∈ K.data.toList, 48 ≤ x.toNat ∧ x.toNat ≤ 57 := by rw [hK]; decide
    have hKv : dv 0 K.data.toList = 9223372036854775807 := by rw [hK]; decide +kernel
    have hlex := dv_lex s.data.toList K.data.toList 0 (by rw [hl, hKl]; omega) hc.2.2 hKd
    have heq : s.data.toList = K.data.toList ↔ dv 0 s.data.toList = dv 0 K.data.toList := by
      refine ⟨fun e => by rw [e], fun e => ?_⟩
      have h1 := hc.dec
      have h2 : Lib.decDigits (dv 0 K.data.toList) = K.data.toList := by
        refine Can.dec ⟨fun q => ?_, .inr fun q => ?_, hKd⟩
        · rw [q] at hKl; simp at hKl
        · rw [hK] at q; revert q; decide
      rw [← h1, ← h2, e, h2]
    have hg : ∀ W, (binOp .gtr 9 (.string s) (.string K)).run Tryd.prog W = .ok (.bool (decide (9223372036854775807 < dv 0 s.data.toList))) W := fun W => by
      rw [show binOp .gtr 9 (.string s) (.string K) = pure (.bool !(Op.bytesLess s.toList K.toList || s.toList == K.toList)) by simp [binOp, Op.stringOp], Proofs.bytesLess_eq, ByteArray.toList_eq, ByteArray.toList_eq]
      have : (!(decide (s.data.toList < K.data.toList) || s.data.toList == K.data.toList)) = decide (9223372036854775807 < dv 0 s.data.toList) := by
        rw [Bool.eq_iff_iff]
        simp only [Bool.not_eq_true', Bool.or_eq_false_iff, decide_eq_false_iff_not, beq_eq_false_iff_ne, decide_eq_true_eq, ne_eq]
        rw [hlex, heq, hKv]
        omega
      rw [this]
      rfl
    rw [hK] at hg
    clear hlex heq hKv hKd hKl hK hc hl h
    by_cases hb : 9223372036854775807 < dv 0 s.data.toList
    · rw [if_pos hb]
      rw [decide_eq_true hb] at hg
      clear hb
      go_enter Tryd.func28, Tryd.ntmps28
      go_wp2_with fail
      go_ret
      exact ⟨rfl, rfl⟩
    · rw [if_neg hb]
      rw [decide_eq_false hb] at hg
      clear hb
      go_enter Tryd.func28, Tryd.ntmps28
      go_wp2_with fail
      go_ret
      exact ⟨rfl, rfl⟩

/-- what the document's number has reckoned so far -/
def Cap (n : Nat) (l : List UInt8) : Prop := (dv 0 l ≤ 1048576 → n = dv 0 l) ∧ (1048576 < dv 0 l → 1048576 < n) ∧ n ≤ 10485769
theorem Cap.big {n : Nat} {l : List UInt8} (h : Cap n l) (hn : 1048576 < n) (x : UInt8) : Cap n (l ++ [x]) := by
  have h1 : 1048576 < dv 0 l := by
    rcases Nat.lt_or_ge 1048576 (dv 0 l) with q | q
    · exact q
    · have := h.1 q; omega
  have h2 := dv_snoc l 0 x
  exact ⟨fun q => by omega, fun _ => hn, h.2.2⟩
theorem Cap.small {n : Nat} {l : List UInt8} (h : Cap n l) (hn : n ≤ 1048576) (x : UInt8) (hx : 48 ≤ x.toNat ∧ x.toNat ≤ 57) : Cap (10 * n + (x.toNat - 48)) (l ++ [x]) := by
  have h1 : dv 0 l ≤ 1048576 := by
    rcases Nat.lt_or_ge 1048576 (dv 0 l) with q | q
    · have := h.2.1 q; omega
    · exact q
  have h2 := dv_snoc l 0 x
  have h3 := h.1 h1
  exact ⟨fun q => by omega, fun q => by omega, by omega⟩
end Go.Proofs.YtojbfdlgjjghjaaDoor.K
