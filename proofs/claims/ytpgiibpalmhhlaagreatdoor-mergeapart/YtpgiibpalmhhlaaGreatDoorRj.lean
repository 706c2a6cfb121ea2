/-
  Contracts: the document's Join.
-/
import Derived.Test.YtpgiibpalmhhlaaGreatDoorRef2
namespace Go.Proofs.YtpgiibpalmhhlaaGreatDoor
open Go.RowKit
open Go.Lib hiding intOf
set_option linter.unusedVariables false
set_option linter.unusedSimpArgs false

theorem jn_take_zero (ps : List (List UInt8)) (x : List UInt8) (h : ps[0]? = some x) : jn (ps.take 1) = x := by
  cases ps with
  | nil => simp at h
  | cons a r => simp at h; subst h; simp [jn_one]
theorem jn_take_succ (ps : List (List UInt8)) (i : Nat) (x : List UInt8) (h : ps[i]? = some x) (hi : 0 < i) : jn (ps.take (i + 1)) = jn (ps.take i) ++ 47 :: x := by
  have hl : i < ps.length := (List.getElem?_eq_some_iff.1 h).1
  rw [List.take_add_one, h]
  have : ps.take i ≠ [] := by intro e; have := congrArg List.length e; rw [List.length_take, List.length_nil] at this; omega
  simp only [Option.toList]
  rw [jn_append _ _ this (by simp), jn_one]

theorem jn_take_le (ps : List (List UInt8)) (i : Nat) : (jn (ps.take i)).length ≤ (jn ps).length := by
  have e := List.take_append_drop i ps
  by_cases h : ps.take i = []
  · rw [h, jn_nil]; simp
  · by_cases h2 : ps.drop i = []
    · rw [h2, List.append_nil] at e; rw [e]; exact Nat.le_refl _
    · have := jn_append _ _ h h2
      rw [e] at this
      rw [this]; simp

set_option maxHeartbeats 2000000 in
theorem rjoin_w (ad : Option Addr) (c : Nat) (ps : List (List UInt8)) (w : World) (h : Sl w ad ps) (hc : ps.length ≤ c) (hn : ps.length ≤ 100000) (hl : (jn ps).length ≤ 100000000) :
    Calls Tryz.prog 70 #[.slice ad ps.length c] w fun e w' => e = .returned (.string (bs (jn ps))) ∧ w' = w := by
  have HS : Hid (∀ i x, ps[i]? = some x → ∃ b o, ad = some ⟨b, o, none⟩ ∧ w.cell? ⟨b, o + i, none⟩ = some (.string (bs x))) := fun i x hx => by
    rcases h with h | ⟨b, o, h1, h2, h3⟩
    · rw [h] at hx; simp at hx
    · exact ⟨b, o, h1, h3 i x hx⟩
  have HL : Hid (∀ i, (jn (ps.take i)).length ≤ 100000000) := fun i => Nat.le_trans (jn_take_le ps i) hl
  clear h hl
  generalize hN : ps.length = N at *
  have HN : Hid (ps.length = N) := hN
  clear hN
  go_enter Tryz.func70, Tryz.ntmps70
  go_wp2_with fail
  go_loop [3, 4] (fun t3 t4 => ∃ i : Nat, i ≤ N ∧ t4 = .int .i64 i ∧ t3 = .string (bs (jn (ps.take i)))) (fun _ t => N - (RowKit.intOf t).toNat)
  case atStart => exact ⟨0, Nat.zero_le _, rfl, by simp [jn_nil]; rfl⟩
  case round =>
    obtain ⟨i, hi, rfl, rfl⟩ := hrel
    by_cases hlt : i < N
    · have l1 : i < ps.length := by rw [HN.out]; exact hlt
      obtain ⟨x, hx⟩ : ∃ x, ps[i]? = some x := ⟨ps[i], List.getElem?_eq_getElem _⟩
      obtain ⟨b, o, had, hcell⟩ := HS.out i x hx
      subst had
      have y1 : (bs (jn (ps.take i))).size ≤ 100000000 := by rw [bs_size]; exact HL.out i
      by_cases h0 : i = 0
      · have hip : ¬ (0 : Int) < (i : Int) := by omega
        have e1 : jn (ps.take (i + 1)) = x := by subst h0; exact jn_take_zero ps x hx
        have e0 : jn (ps.take i) = [] := by subst h0; simp [jn_nil]
        have hcat : bs (jn (ps.take i)) ++ bs x = bs (jn (ps.take (i + 1))) := by rw [bs_app, e1, e0]; rfl
        have y2 : (bs x).size ≤ 100000000 := by
          have := HL.out (i + 1)
          rw [e1] at this
          rw [bs_size]; exact this
        clear e0 e1
        generalize jn (ps.take i) = P at *
        generalize hJ : jn (ps.take (i + 1)) = J at *
        have HJ : Hid (jn (ps.take (i + 1)) = J) := hJ
        clear hx l1 hJ h0
        go_wp2_with fail
        go_round
        case rel => exact ⟨i + 1, by omega, by simp, by rw [HJ.out]⟩
        case measure => simp [RowKit.intOf]; omega
      · have e1 : jn (ps.take (i + 1)) = jn (ps.take i) ++ 47 :: x := jn_take_succ ps i x hx (by omega)
        have hcat1 : bs (jn (ps.take i)) ++ (⟨#[47]⟩ : ByteArray) = bs (jn (ps.take i) ++ [47]) := bs_app _ [47]
        have hcat2 : bs (jn (ps.take i) ++ [47]) ++ bs x = bs (jn (ps.take (i + 1))) := by rw [bs_app, e1]; congr 1; simp
        have y3 : (bs (jn (ps.take i) ++ [47])).size ≤ 100000001 := by rw [bs_size]; simp; exact HL.out i
        have y2 : (bs x).size ≤ 100000000 := by
          have := HL.out (i + 1)
          rw [e1] at this
          simp at this
          rw [bs_size]; omega
        generalize jn (ps.take i) = P at *
        generalize P ++ [47] = P2 at *
        generalize hJ : jn (ps.take (i + 1)) = J at *
        have HJ : Hid (jn (ps.take (i + 1)) = J) := hJ
        have hip : (0 : Int) < (i : Int) := by omega
        clear hx l1 hJ e1
        go_wp2_with fail
        go_round
        case rel => exact ⟨i + 1, by omega, by simp, by rw [HJ.out]⟩
        case measure => simp [RowKit.intOf]; omega
    · have hiN : i = N := by omega
      have HF : Hid (jn (ps.take i) = jn ps) := hid (by rw [List.take_of_length_le (by rw [HN.out]; omega)])
      clear hiN
      go_wp2_with fail
      go_ret
      exact ⟨by rw [← HF.out]; rfl, rfl⟩

end Go.Proofs.YtpgiibpalmhhlaaGreatDoor
