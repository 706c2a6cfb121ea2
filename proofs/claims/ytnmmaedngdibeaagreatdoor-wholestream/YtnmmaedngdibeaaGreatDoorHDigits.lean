/-
  Contract: octal.parseDigits over any bytes.
-/
import Derived.Test.YtnmmaedngdibeaaGreatDoorChecked
import Derived.Test.YtnmmaedngdibeaaGreatDoorHPd
import Derived.Test.YtnmmaedngdibeaaGreatDoorHBits
import Derived.WalkKit
namespace Go.Proofs.YtnmmaedngdibeaaGreatDoor.H
open Go.RowKit

/-- 'zs' are the bytes of a slice at 'a' in the world 'w'. -/
def Bytes (w : World) (a : Option Addr) (zs : List Int) : Prop :=
  zs.length ≤ 9223372036854775807 ∧ (zs = [] ∨ ∃ b off, a = some ⟨b, off, none⟩ ∧ (∀ i : Nat, i < zs.length → w.cell? ⟨b, off + i, none⟩ = some (.int .u8 (zs[i]?.getD 0)))) ∧ ∀ i : Nat, 0 ≤ zs[i]?.getD 0 ∧ zs[i]?.getD 0 ≤ 255

theorem ret_bad {o : Option Int} (h : o = none) : Ending.returned (.tuple #[.int .i64 0, .int .i64 20]) = .returned (.tuple #[.int .i64 (resN o), .int .i64 (resE o)]) := by subst h; rfl
theorem ret_good {o : Option Int} {n : Int} (h : o = some n) : Ending.returned (.tuple #[.int .i64 n, .int .i64 0]) = .returned (.tuple #[.int .i64 (resN o), .int .i64 (resE o)]) := by subst h; rfl

theorem dgo_a {c p n : Int} {r : List Int} (h1 : c = 32) (h2 : (p == 0) = true) : dgo (c :: r) n p = dgo r n p := by
  have h2 : p = 0 := by simpa using h2
  simp [dgo, dstep, h1, h2]
theorem dgo_b {c p n : Int} {r : List Int} (h1 : c = 32) (h2 : (p == 0) = false) : dgo (c :: r) n p = dgo r n 2 := by
  have h2 : ¬ p = 0 := by simpa using h2
  simp [dgo, dstep, h1, h2]
theorem dgo_c {c p n : Int} {r : List Int} (h1 : ¬ c = 32) (h2 : 48 ≤ c) (h3 : c ≤ 55) (h4 : (p != 2) = true) (h5 : 1152921504606846975 < n) : dgo (c :: r) n p = none := by
  have h4 : ¬ p = 2 := by simpa using h4
  simp [dgo, dstep, h1, h2, h3, h4, h5]
theorem dgo_d {c p n : Int} {r : List Int} (h1 : ¬ c = 32) (h2 : 48 ≤ c) (h3 : c ≤ 55) (h4 : (p != 2) = true) (h5 : n ≤ 1152921504606846975) : dgo (c :: r) n p = dgo r (n * 8 + (c - 48)) 1 := by
  have h4 : ¬ p = 2 := by simpa using h4
  simp [dgo, dstep, h1, h2, h3, h4, Int.not_lt.2 h5, Int.mul_comm]
theorem dgo_e {c p n : Int} {r : List Int} (h1 : ¬ c = 32) (h2 : ¬ 48 ≤ c ∨ 55 < c ∨ (p != 2) = false) (h3 : (c == 32) = true ∨ (c == 0) = true) : dgo (c :: r) n p = dgo r n 2 := by
  have h3 : c = 0 := by simpa [h1] using h3
  subst h3
  simp [dgo, dstep]
theorem dgo_f {c p n : Int} {r : List Int} (h1 : ¬ c = 32) (h2 : ¬ 48 ≤ c ∨ 55 < c ∨ (p != 2) = false) (h3 : (c == 32) = false ∧ (c == 0) = false) : dgo (c :: r) n p = none := by
  have h3 : ¬ c = 0 := by simpa using h3.2
  have h4 : ¬ ((48 ≤ c ∧ c ≤ 55) ∧ ¬ p = 2) := by
    rcases h2 with h | h | h
    · omega
    · omega
    · have : p = 2 := by simpa using h
      simp [this]
  simp only [dgo, dstep]
  rw [if_neg (by simp [h1]), if_neg h4, if_neg (by simp [h1, h3])]

set_option maxHeartbeats 1000000 in
theorem digits_some (b off : Nat) (cap : Nat) (zs : List Int) (w : World) (hlen : zs.length ≤ 9223372036854775807)
    (hc : ∀ i : Nat, i < zs.length → w.cell? ⟨b, off + i, none⟩ = some (.int .u8 (zs[i]?.getD 0))) (hz : ∀ i : Nat, 0 ≤ zs[i]?.getD 0 ∧ zs[i]?.getD 0 ≤ 255) :
    Calls Tryz.prog 95 #[.slice (some ⟨b, off, none⟩) zs.length cap] w fun e w' => e = .returned (.tuple #[.int .i64 (resN (dgo zs 0 0)), .int .i64 (resE (dgo zs 0 0))]) ∧ w' = w := by
  go_enter Tryz.func95, Tryz.ntmps95
  go_wp2
  go_loop [4, 5, 10] (fun tn tp i => ∃ (k : Nat) (n p : Int), k ≤ zs.length ∧ i = .int .i64 k ∧ tn = .int .i64 n ∧ tp = .int .i64 p ∧ 0 ≤ n ∧ n ≤ 9223372036854775807 ∧ 0 ≤ p ∧ p ≤ 2 ∧ Hid (dgo zs 0 0 = dgo (zs.drop k) n p))
    (fun _ _ i => zs.length - (intOf i).toNat)
  case atStart => exact ⟨0, 0, 0, Nat.zero_le _, rfl, rfl, rfl, by omega, by omega, by omega, by omega, by simp [Hid]⟩
  case round =>
    obtain ⟨k, n, p, hk, rfl, rfl, rfl, hn0, hn1, hp0, hp1, H⟩ := hrel
    by_cases hlt : k < zs.length
    · have hcell := hc k hlt
      have hb := hz k
      have HS : Hid (dgo zs 0 0 = dgo (zs[k]?.getD 0 :: zs.drop (k + 1)) n p) := by show _ = _; rw [H.out, drop_cons zs k hlt]
      clear hc hz H
      generalize zs[k]?.getD 0 = c at *
      go_wp2
      · go_round
        case rel => exact ⟨k + 1, n, p, by omega, by go_num, rfl, rfl, hn0, hn1, hp0, hp1, HS.out.trans (dgo_a (by assumption) (by assumption))⟩
        case measure => simp [intOf]; omega
      · go_round
        case rel => exact ⟨k + 1, n, 2, by omega, by go_num, rfl, rfl, hn0, hn1, by omega, by omega, HS.out.trans (dgo_b (by assumption) (by assumption))⟩
        case measure => simp [intOf]; omega
      · go_ret2
        exact ⟨ret_bad (HS.out.trans (dgo_c (by assumption) (by assumption) (by assumption) (by assumption) (by assumption))), rfl⟩
      · rw [or_up 3 (.inl rfl) (n * 8) (c - 48) (by omega) (by omega) (by omega) (by omega) (by omega)]
        go_round
        case rel => exact ⟨k + 1, n * 8 + (c - 48), 1, by omega, by go_num, rfl, rfl, by omega, by omega, by omega, by omega, HS.out.trans (dgo_d (by assumption) (by assumption) (by assumption) (by assumption) (by assumption))⟩
        case measure => simp [intOf]; omega
      · have h : (c == 32) = true ∨ (c == 0) = true := by assumption
        simp at h
        omega
      · go_ret2
        exact ⟨ret_bad (HS.out.trans (dgo_f (by assumption) (.inr (.inr (by assumption))) (by assumption))), rfl⟩
      · go_round
        case rel => exact ⟨k + 1, n, 2, by omega, by go_num, rfl, rfl, hn0, hn1, by omega, by omega, HS.out.trans (dgo_e (by assumption) (.inr (.inl (by omega))) (by assumption))⟩
        case measure => simp [intOf]; omega
      · go_ret2
        exact ⟨ret_bad (HS.out.trans (dgo_f (by assumption) (.inr (.inl (by omega))) (by assumption))), rfl⟩
      · go_round
        case rel => exact ⟨k + 1, n, 2, by omega, by go_num, rfl, rfl, hn0, hn1, by omega, by omega, HS.out.trans (dgo_e (by assumption) (.inl (by omega)) (by assumption))⟩
        case measure => simp [intOf]; omega
      · go_ret2
        exact ⟨ret_bad (HS.out.trans (dgo_f (by assumption) (.inl (by omega)) (by assumption))), rfl⟩
    · go_wp2
      have hke : k = zs.length := by omega
      subst hke
      go_ret2
      exact ⟨ret_good (H.out.trans (by simp [dgo])), rfl⟩

theorem digits_nil (a : Option Addr) (cap : Nat) (w : World) :
    Calls Tryz.prog 95 #[.slice a 0 cap] w fun e w' => e = .returned (.tuple #[.int .i64 0, .int .i64 0]) ∧ w' = w := by
  go_enter Tryz.func95, Tryz.ntmps95
  go_wp2
  refine wp_loop_rounds 1 ?_
  rw [rounds_succ]
  go_wp2
  go_ret2
  exact ⟨rfl, rfl⟩

theorem digits_any (a : Option Addr) (cap : Nat) (zs : List Int) (w : World) (h : Bytes w a zs) :
    Calls Tryz.prog 95 #[.slice a zs.length cap] w fun e w' => e = .returned (.tuple #[.int .i64 (resN (dgo zs 0 0)), .int .i64 (resE (dgo zs 0 0))]) ∧ w' = w := by
  obtain ⟨h1, rfl | ⟨b, off, rfl, hc⟩, h3⟩ := h
  · exact digits_nil a cap w
  · exact digits_some b off cap zs w h1 hc h3

set_option maxHeartbeats 1000000 in
theorem bytes_some (b off : Nat) (cap : Nat) (n0 : Int) (zs : List Int) (w : World) (hlen : zs.length ≤ 9223372036854775807) (h0 : -1 ≤ n0) (h1 : n0 ≤ 0)
    (hc : ∀ i : Nat, i < zs.length → w.cell? ⟨b, off + i, none⟩ = some (.int .u8 (zs[i]?.getD 0))) (hz : ∀ i : Nat, 0 ≤ zs[i]?.getD 0 ∧ zs[i]?.getD 0 ≤ 255) :
    Calls Tryz.prog 96 #[.int .i64 n0, .slice (some ⟨b, off, none⟩) zs.length cap] w fun e w' => e = .returned (.tuple #[.int .i64 (resN (bgo zs n0)), .int .i64 (resE (bgo zs n0))]) ∧ w' = w := by
  go_enter Tryz.func96, Tryz.ntmps96
  go_wp2
  go_loop [0, 10] (fun tn i => ∃ (k : Nat) (n : Int), k ≤ zs.length ∧ i = .int .i64 k ∧ tn = .int .i64 n ∧ -9223372036854775808 ≤ n ∧ n ≤ 9223372036854775807 ∧ Hid (bgo zs n0 = bgo (zs.drop k) n))
    (fun _ i => zs.length - (intOf i).toNat)
  case atStart => exact ⟨0, n0, Nat.zero_le _, rfl, rfl, by omega, by omega, by simp [Hid]⟩
  case round =>
    obtain ⟨k, n, hk, rfl, rfl, hn0, hn1, H⟩ := hrel
    by_cases hlt : k < zs.length
    · have hcell := hc k hlt
      have hb := hz k
      have HS : Hid (bgo zs n0 = bgo (zs[k]?.getD 0 :: zs.drop (k + 1)) n) := by show _ = _; rw [H.out, drop_cons zs k hlt]
      clear hc hz H
      generalize zs[k]?.getD 0 = c at *
      by_cases hb1 : n < -36028797018963968
      · go_wp2
        go_ret2
        exact ⟨ret_bad (HS.out.trans (by simp [bgo, hb1])), rfl⟩
      · by_cases hb2 : 36028797018963967 < n
        · go_wp2
          go_ret2
          exact ⟨ret_bad (HS.out.trans (by simp [bgo, hb2])), rfl⟩
        · go_wp2
          rw [or_up 8 (.inr rfl) (n * 256) c (by omega) (by omega) (by omega) (by omega) (by omega)]
          go_round
          case rel => exact ⟨k + 1, n * 256 + c, by omega, by go_num, rfl, by omega, by omega, HS.out.trans (by rw [bgo, if_neg (by omega), Int.mul_comm])⟩
          case measure => simp [intOf]; omega
    · go_wp2
      have hke : k = zs.length := by omega
      subst hke
      go_ret2
      exact ⟨ret_good (H.out.trans (by simp [bgo])), rfl⟩

theorem bytes_nil (a : Option Addr) (cap : Nat) (n0 : Int) (w : World) :
    Calls Tryz.prog 96 #[.int .i64 n0, .slice a 0 cap] w fun e w' => e = .returned (.tuple #[.int .i64 n0, .int .i64 0]) ∧ w' = w := by
  go_enter Tryz.func96, Tryz.ntmps96
  go_wp2
  refine wp_loop_rounds 1 ?_
  rw [rounds_succ]
  go_wp2
  go_ret2
  exact ⟨rfl, rfl⟩

theorem bytes_any (a : Option Addr) (cap : Nat) (n0 : Int) (zs : List Int) (w : World) (h0 : -1 ≤ n0) (h1 : n0 ≤ 0) (h : Bytes w a zs) :
    Calls Tryz.prog 96 #[.int .i64 n0, .slice a zs.length cap] w fun e w' => e = .returned (.tuple #[.int .i64 (resN (bgo zs n0)), .int .i64 (resE (bgo zs n0))]) ∧ w' = w := by
  obtain ⟨h2, rfl | ⟨b, off, rfl, hc⟩, h3⟩ := h
  · exact bytes_nil a cap n0 w
  · exact bytes_some b off cap n0 zs w h2 h0 h1 hc h3

end Go.Proofs.YtnmmaedngdibeaaGreatDoor.H
